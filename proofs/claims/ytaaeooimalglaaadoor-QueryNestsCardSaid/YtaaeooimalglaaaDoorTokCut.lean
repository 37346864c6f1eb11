/-
  A text's words by way of its runs of letters and digits, without the program's text: the runs, each one's term, and that these are the words as the chapter takes them.
-/
import Derived.Test.YtaaeooimalglaaaDoorTokPure
namespace Go.Proofs.YtaaeooimalglaaaDoor

/-- The runs of letters and digits; c is the open one. -/
def cutA (c : List Nat) : List Nat → List (List Nat)
  | [] => if c = [] then [] else [c]
  | r :: l => if classZ (r : Int) = 0 then (if c = [] then cutA [] l else c :: cutA [] l) else cutA (c ++ [r]) l
def cutL (l : List Nat) : List (List Nat) := cutA [] l
def lettersP (c : List Nat) : Prop := ∀ r ∈ c, classZ (r : Int) ≠ 0
set_option maxRecDepth 100000 in
theorem cutA_nil (c : List Nat) : cutA c [] = if c = [] then [] else [c] := rfl
set_option maxRecDepth 100000 in
theorem cutA_cons (c l : List Nat) (r : Nat) : cutA c (r :: l) = if classZ (r : Int) = 0 then (if c = [] then cutA [] l else c :: cutA [] l) else cutA (c ++ [r]) l := rfl
set_option maxRecDepth 100000 in
theorem letters_snoc {c : List Nat} {r : Nat} (h : lettersP c) (hr : classZ (r : Int) ≠ 0) : lettersP (c ++ [r]) := by
  intro x hx
  rcases List.mem_append.1 hx with hx | hx
  · exact h x hx
  · simp at hx; subst hx; exact hr
set_option maxRecDepth 100000 in
theorem cutA_are : ∀ (l c : List Nat), lettersP c → ∀ q ∈ cutA c l, q ≠ [] ∧ lettersP q ∧ ∀ x ∈ q, x ∈ c ∨ x ∈ l
  | [], c, h, q, hq => by
    rw [cutA_nil] at hq
    split at hq
    · simp at hq
    · simp at hq; subst hq; exact ⟨by assumption, h, fun x hx => .inl hx⟩
  | r :: l, c, h, q, hq => by
    rw [cutA_cons] at hq
    split at hq
    · split at hq
      · have := cutA_are l [] (by simp [lettersP]) q hq
        exact ⟨this.1, this.2.1, fun x hx => by have := this.2.2 x hx; simp at this; simp [this]⟩
      · rcases List.mem_cons.1 hq with rfl | hq
        · exact ⟨by assumption, h, fun x hx => .inl hx⟩
        · have := cutA_are l [] (by simp [lettersP]) q hq
          exact ⟨this.1, this.2.1, fun x hx => by have := this.2.2 x hx; simp at this; simp [this]⟩
    · have := cutA_are l (c ++ [r]) (letters_snoc h (by assumption)) q hq
      refine ⟨this.1, this.2.1, fun x hx => ?_⟩
      have := this.2.2 x hx
      simp at this ⊢
      rcases this with (h | h) | h
      · exact .inl h
      · exact .inr (.inl h)
      · exact .inr (.inr h)
set_option maxRecDepth 100000 in
theorem cutA_le : ∀ (l c : List Nat), (cutA c l).length ≤ l.length + 1
  | [], c => by rw [cutA_nil]; split <;> simp
  | r :: l, c => by
    rw [cutA_cons]
    have h1 := cutA_le l []
    have h2 := cutA_le l (c ++ [r])
    split
    · split <;> simp <;> omega
    · simp; omega

/-! ### Each run's term -/
def termB (q : List Nat) : List Nat := (tokRun tok0 q).cur
set_option maxRecDepth 100000 in
theorem run_open : ∀ (q c : List Nat) (f b : Bool), lettersP q → (tokRun ⟨[], c, f, b⟩ q).out = [] ∧ (tokRun ⟨[], c, f, b⟩ q).some = (b || !q.isEmpty)
  | [], c, f, b, _ => by simp [tokRun]
  | r :: q, c, f, b, h => by
    have hr := h r (by simp)
    have hq : lettersP q := fun x hx => h x (by simp [hx])
    rw [tokStep_cons]
    unfold tokStep
    rw [if_neg hr]
    split
    · have := run_open q c true true hq
      simp [this]
    · have := run_open q (c ++ encR (foldN r)) f true hq
      simp [this]
set_option maxRecDepth 100000 in
theorem run_cut : ∀ (l c : List Nat), lettersP c → (tokRun (tokRun tok0 c) (l ++ [32])).out = (cutA c l).map termB
  | [], c, h => by
    have ho := run_open c [] false false h
    rw [List.nil_append, show tokRun (tokRun tok0 c) [32] = tokStep (tokRun tok0 c) 32 from rfl, cutA_nil]
    unfold tokStep
    rw [if_pos class_blank, show tokRun tok0 c = tokRun ⟨[], [], false, false⟩ c from rfl, ho.1, ho.2]
    cases c with
    | nil => rfl
    | cons x c => rfl
  | r :: l, c, h => by
    have ho := run_open c [] false false h
    rw [List.cons_append, tokStep_cons, cutA_cons]
    by_cases hr : classZ (r : Int) = 0
    · rw [if_pos hr]
      have hs : tokStep (tokRun tok0 c) r = ⟨if c = [] then [] else [termB c], [], false, false⟩ := by
        unfold tokStep
        rw [if_pos hr, show tokRun tok0 c = tokRun ⟨[], [], false, false⟩ c from rfl, ho.1, ho.2]
        cases c with
        | nil => rfl
        | cons x c => rfl
      rw [hs]
      have h0 := run_cut l [] (by simp [lettersP])
      have hp := tokRun_pre (if c = [] then [] else [termB c]) (l ++ [32]) tok0
      simp only [tok0, List.append_nil] at hp
      rw [hp]
      show _ ++ (tokRun tok0 (l ++ [32])).out = _
      rw [show tokRun tok0 (l ++ [32]) = tokRun (tokRun tok0 []) (l ++ [32]) from rfl, h0]
      split <;> simp
    · rw [if_neg hr, ← tokRun_snoc]
      exact run_cut l (c ++ [r]) (letters_snoc h hr)
set_option maxRecDepth 100000 in
theorem allR_cut (l : List Nat) : allR l = (cutL l).map termB := run_cut l [] (by simp [lettersP])
set_option maxRecDepth 100000 in
theorem allT_cut (s : ByteArray) : allT s = (cutL (runesOf s)).map termB := allR_cut _

set_option maxRecDepth 100000 in
theorem run_full : ∀ (q c : List Nat) (o : List (List Nat)) (b : Bool), lettersP q → (tokRun ⟨o, c, true, b⟩ q).cur = c
  | [], c, o, b, _ => rfl
  | r :: q, c, o, b, h => by
    rw [tokStep_cons]
    unfold tokStep
    rw [if_neg (h r (by simp)), if_pos (.inl rfl)]
    exact run_full q c o true fun x hx => h x (by simp [hx])
set_option maxRecDepth 100000 in
theorem ints_cons' (r : Nat) (l : List Nat) : ints (r :: l) = (r : Int) :: ints l := rfl
set_option maxRecDepth 100000 in
theorem fitK_cons' (r : Int) (l : List Int) (n : Int) : fitK (r :: l) n = if ((encR (normR r)).length : Int) ≤ n then fitK l (n - (encR (normR r)).length) + 1 else 0 := rfl
set_option maxRecDepth 100000 in
theorem run_term : ∀ (q c : List Nat) (b : Bool), lettersP q → (∀ r ∈ q, okR r) → (tokRun ⟨[], c, false, b⟩ q).cur = c ++ textL ((q.map foldN).take (fitK (ints (q.map foldN)) ((16 : Int) - (c.length : Int))))
  | [], c, b, _, _ => by simp [tokRun, textL]
  | r :: q, c, b, h, ho => by
    have hq : lettersP q := fun x hx => h x (by simp [hx])
    have hok := (fold_ok (ho r (by simp))).2
    rw [tokStep_cons, List.map_cons, ints_cons', fitK_cons', normR_self hok]
    unfold tokStep
    rw [if_neg (h r (by simp))]
    by_cases h16 : 16 < c.length + (encR (foldN r)).length
    · rw [if_pos (.inr h16), if_neg (by omega)]
      rw [run_full q c [] true hq]
      simp [textL]
    · rw [if_neg (by simp; omega), if_pos (by omega)]
      rw [run_term q _ true hq fun x hx => ho x (by simp [hx])]
      have e : (16 : Int) - ((c ++ encR (foldN r)).length : Int) = 16 - (c.length : Int) - ((encR (foldN r)).length : Int) := by rw [List.length_append]; omega
      rw [e, List.take_succ_cons]
      simp [textL]
set_option maxRecDepth 100000 in
theorem fitK_take : ∀ (l : List Int) (n : Int) (m : Nat), n ≤ (m : Int) → fitK (l.take m) n = fitK l n
  | [], n, m, _ => by simp
  | r :: l, n, 0, h => by
    have h1 := (encR_len (normR r)).1
    rw [List.take_zero, fitK_cons', if_neg (by omega)]
    rfl
  | r :: l, n, m + 1, h => by
    have h1 := (encR_len (normR r)).1
    rw [List.take_succ_cons, fitK_cons', fitK_cons', fitK_take l _ m (by omega)]
set_option maxRecDepth 100000 in
theorem textZ_ints {l : List Nat} (h : ∀ r ∈ l, okR r) : textZ (ints l) = byteText (textL l) := by
  unfold textZ
  rw [textB_textL, norm_ints h]
set_option maxRecDepth 100000 in
/-- The first runes, folded, as many as there is room for: that is the run's term. -/
theorem term_fit {q : List Nat} {k : Nat} (hk : k = min q.length 16) (h : lettersP q) (ho : ∀ r ∈ q, okR r) :
    textZ ((ints (runesOf (textZ (ints ((q.take k).map foldN))))).take (fitK (ints (runesOf (textZ (ints ((q.take k).map foldN))))) 16)) = byteText (termB q) := by
  have hf : ∀ r ∈ q.map foldN, okR r := by
    intro x hx
    obtain ⟨r, hr, rfl⟩ := List.mem_map.1 hx
    exact (fold_ok (ho r hr)).2
  have hq : (q.take k).map foldN = (q.map foldN).take 16 := by
    rw [List.map_take]
    subst hk
    by_cases h16 : q.length ≤ 16
    · rw [Nat.min_eq_left h16, List.take_of_length_le (by simp), List.take_of_length_le (by simpa using h16)]
    · rw [Nat.min_eq_right (by omega)]
  have hft : ∀ r ∈ (q.map foldN).take 16, okR r := fun r hr => hf r (List.mem_of_mem_take hr)
  rw [hq, runes_textZ, norm_ints hft, ← ints_take, fitK_take _ _ 16 (by omega), ints_take, ints_take]
  have hle : fitK (ints (q.map foldN)) 16 ≤ 16 := by
    have h1 := fitK_take (ints (q.map foldN)) 16 16 (by omega)
    have h2 := fitK_le ((ints (q.map foldN)).take 16) 16
    rw [List.length_take] at h2
    omega
  rw [List.take_take, Nat.min_eq_left hle, textZ_ints fun r hr => hf r (List.mem_of_mem_take hr)]
  have := run_term q [] false h ho
  unfold termB tok0
  rw [this]
  simp
end Go.Proofs.YtaaeooimalglaaaDoor
