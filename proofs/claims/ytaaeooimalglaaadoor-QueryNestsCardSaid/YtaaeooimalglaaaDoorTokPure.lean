/-
  The words of a text, without the program's text: rune by rune with the word that is open; case, one behind the other, a term's own word.
-/
import Derived.Test.YtaaeooimalglaaaDoorUtfWords
import Derived.Test.YtaaeooimalglaaaDoorFoldPure
namespace Go.Proofs.YtaaeooimalglaaaDoor

/-- A rune's number, folded. -/
def foldN (r : Nat) : Nat := (foldZ (r : Int)).toNat
set_option maxRecDepth 100000 in
theorem fold_ok {r : Nat} (h : okR r) : ((foldN r : Nat) : Int) = foldZ (r : Int) ∧ okR (foldN r) := by
  have key : 0 ≤ foldZ (r : Int) ∧ okR (foldZ (r : Int)).toNat := by
    unfold okR at *
    by_cases hn : r < 1642
    · have := fold_small r hn
      omega
    · rw [fold_far (by omega)]
      omega
  unfold foldN
  exact ⟨by omega, key.2⟩
where
  fold_small : ∀ r : Nat, r < 1642 → 0 ≤ foldZ (r : Int) ∧ foldZ (r : Int) < 1700 := by decide +kernel
set_option maxRecDepth 100000 in
theorem foldN_once {r : Nat} (h : okR r) : foldN (foldN r) = foldN r ∧ classZ ((foldN r : Nat) : Int) = classZ (r : Int) := by
  have h1 := fold_ok h
  have h2 := fold_once (r : Int)
  refine ⟨?_, by rw [h1.1]; exact h2.2⟩
  rw [show foldN (foldN r) = (foldZ ((foldN r : Nat) : Int)).toNat from rfl, h1.1, h2.1]
  rfl

/-! ### Rune by rune -/
/-- The words so far, the open one's bytes, whether no more of it fits, whether one is open. -/
structure TokSt where
  out : List (List Nat)
  cur : List Nat
  full : Bool
  some : Bool
def tok0 : TokSt := ⟨[], [], false, false⟩
def tokStep (st : TokSt) (r : Nat) : TokSt :=
  if classZ (r : Int) = 0 then ⟨if st.some then st.out ++ [st.cur] else st.out, [], false, false⟩
  else if st.full = true ∨ 16 < st.cur.length + (encR (foldN r)).length then ⟨st.out, st.cur, true, true⟩
  else ⟨st.out, st.cur ++ encR (foldN r), st.full, true⟩
def tokRun (st : TokSt) (l : List Nat) : TokSt := l.foldl tokStep st
/-- All words' terms, stop words too. -/
def allR (l : List Nat) : List (List Nat) := (tokRun tok0 (l ++ [32])).out
def allT (s : ByteArray) : List (List Nat) := allR (runesOf s)

set_option maxRecDepth 100000 in
theorem tokRun_append (st : TokSt) (a b : List Nat) : tokRun st (a ++ b) = tokRun (tokRun st a) b := List.foldl_append
set_option maxRecDepth 100000 in
theorem tokRun_snoc (st : TokSt) (a : List Nat) (r : Nat) : tokRun st (a ++ [r]) = tokStep (tokRun st a) r := by rw [tokRun_append]; rfl
set_option maxRecDepth 100000 in
theorem tokStep_cons (st : TokSt) (r : Nat) (l : List Nat) : tokRun st (r :: l) = tokRun (tokStep st r) l := rfl
set_option maxRecDepth 100000 in
/-- What stood before stays. -/
theorem tokStep_pre (o : List (List Nat)) (st : TokSt) (r : Nat) : tokStep ⟨o ++ st.out, st.cur, st.full, st.some⟩ r = ⟨o ++ (tokStep st r).out, (tokStep st r).cur, (tokStep st r).full, (tokStep st r).some⟩ := by
  unfold tokStep
  by_cases h1 : classZ (r : Int) = 0
  · rw [if_pos h1, if_pos h1]
    cases st.some <;> simp
  · rw [if_neg h1, if_neg h1]
    by_cases h2 : st.full = true ∨ 16 < st.cur.length + (encR (foldN r)).length
    · rw [if_pos h2, if_pos h2]
    · rw [if_neg h2, if_neg h2]
set_option maxRecDepth 100000 in
theorem tokRun_pre (o : List (List Nat)) : ∀ (l : List Nat) (st : TokSt), tokRun ⟨o ++ st.out, st.cur, st.full, st.some⟩ l = ⟨o ++ (tokRun st l).out, (tokRun st l).cur, (tokRun st l).full, (tokRun st l).some⟩
  | [], _ => rfl
  | r :: l, st => by rw [tokStep_cons, tokStep_cons, tokStep_pre, tokRun_pre o l]
set_option maxRecDepth 100000 in
theorem class_blank : classZ ((32 : Nat) : Int) = 0 := by decide +kernel
set_option maxRecDepth 100000 in
theorem blank_state (st : TokSt) : ∃ o, tokStep st 32 = ⟨o, [], false, false⟩ := by
  unfold tokStep
  rw [if_pos class_blank]
  exact ⟨_, rfl⟩
set_option maxRecDepth 100000 in
/-- One behind the other. -/
theorem allR_blank (a b : List Nat) : allR (a ++ 32 :: b) = allR a ++ allR b := by
  unfold allR
  rw [show a ++ 32 :: b ++ [32] = (a ++ [32]) ++ (b ++ [32]) by simp, tokRun_append]
  obtain ⟨o, ho⟩ := blank_state (tokRun tok0 a)
  rw [← tokRun_snoc] at ho
  rw [ho]
  have := tokRun_pre o (b ++ [32]) tok0
  simp only [tok0, List.append_nil] at this
  rw [this]
  rfl
set_option maxRecDepth 100000 in
theorem allT_blank (a b d : ByteArray) (hd : bytesL d = [32]) : allT (a ++ d ++ b) = allT a ++ allT b := by
  unfold allT
  rw [runesOf_apart a b 32 d hd (by decide), allR_blank]

/-! ### Case -/
set_option maxRecDepth 100000 in
theorem tokStep_fold (st : TokSt) {r : Nat} (h : okR r) : tokStep st (foldN r) = tokStep st r := by
  obtain ⟨h1, h2⟩ := foldN_once h
  unfold tokStep
  rw [h1, h2]
set_option maxRecDepth 100000 in
theorem tokRun_fold : ∀ (l : List Nat) (st : TokSt), (∀ r ∈ l, okR r) → tokRun st (l.map foldN) = tokRun st l
  | [], _, _ => rfl
  | r :: l, st, h => by
    rw [List.map_cons, tokStep_cons, tokStep_cons, tokStep_fold st (h r (by simp)), tokRun_fold l _ fun x hx => h x (by simp [hx])]
set_option maxRecDepth 100000 in
theorem allR_fold (l : List Nat) (h : ∀ r ∈ l, okR r) : allR (l.map foldN) = allR l := by
  unfold allR
  rw [tokRun_append, tokRun_append, tokRun_fold l tok0 h]
set_option maxRecDepth 100000 in
theorem ints_fold {l : List Nat} (h : ∀ r ∈ l, okR r) : ints (l.map foldN) = (ints l).map foldZ := by
  unfold ints
  rw [List.map_map, List.map_map]
  apply List.map_congr_left
  intro r hr
  exact (fold_ok (h r hr)).1
set_option maxRecDepth 100000 in
theorem allT_fold (s : ByteArray) : allT (textZ ((ints (runesOf s)).map foldZ)) = allT s := by
  unfold allT
  rw [← ints_fold (runesOf_ok s), runes_textZ, norm_ints (fun x hx => by obtain ⟨r, hr, rfl⟩ := List.mem_map.1 hx; exact (fold_ok (runesOf_ok s r hr)).2), allR_fold _ (runesOf_ok s)]

/-! ### A term's own words -/
/-- The bytes of runes that are letters or digits, folded, no more than sixteen. -/
structure Term (t : List Nat) : Prop where
  ex : ∃ q : List Nat, q ≠ [] ∧ t = textL q ∧ ∀ x ∈ q, okR x ∧ classZ (x : Int) ≠ 0 ∧ foldN x = x
  len : t.length ≤ 16
structure FairT (st : TokSt) : Prop where
  out : ∀ t ∈ st.out, Term t
  cur : st.some = true → Term st.cur
  no : st.some = false → st.cur = [] ∧ st.full = false
set_option maxRecDepth 100000 in
theorem fair0 : FairT tok0 := ⟨by simp [tok0], by simp [tok0], fun _ => ⟨rfl, rfl⟩⟩
set_option maxRecDepth 100000 in
theorem FairT.step {st : TokSt} (h : FairT st) {r : Nat} (hr : okR r) : FairT (tokStep st r) := by
  unfold tokStep
  by_cases h1 : classZ (r : Int) = 0
  · rw [if_pos h1]
    refine ⟨?_, by simp, fun _ => ⟨rfl, rfl⟩⟩
    cases hs : st.some
    · simpa using h.out
    · intro t ht
      simp at ht
      rcases ht with ht | rfl
      · exact h.out t ht
      · exact h.cur hs
  · rw [if_neg h1]
    have hf := fold_ok hr
    have ho := foldN_once hr
    have hl := encR_len (foldN r)
    by_cases h2 : st.full = true ∨ 16 < st.cur.length + (encR (foldN r)).length
    · rw [if_pos h2]
      refine ⟨h.out, fun _ => ?_, by simp⟩
      cases hs : st.some
      · obtain ⟨hc, hfu⟩ := h.no hs
        rw [hc, hfu] at h2
        simp at h2
        omega
      · exact h.cur hs
    · rw [if_neg h2]
      refine ⟨h.out, fun _ => ⟨?_, ?_⟩, by simp⟩
      · cases hs : st.some
        · obtain ⟨hc, _⟩ := h.no hs
          refine ⟨[foldN r], by simp, by rw [hc]; simp [textL], ?_⟩
          intro x hx
          simp at hx
          subst hx
          exact ⟨hf.2, by rw [ho.2]; exact h1, ho.1⟩
        · obtain ⟨q, hq, hq2, hq3⟩ := (h.cur hs).ex
          refine ⟨q ++ [foldN r], by simp, ?_, ?_⟩
          · simp only; rw [hq2]; simp [textL]
          · intro x hx
            rcases List.mem_append.1 hx with hx | hx
            · exact hq3 x hx
            · simp at hx
              subst hx
              exact ⟨hf.2, by rw [ho.2]; exact h1, ho.1⟩
      · simp only [List.length_append]
        omega
set_option maxRecDepth 100000 in
theorem FairT.run : ∀ (l : List Nat) {st : TokSt}, FairT st → (∀ r ∈ l, okR r) → FairT (tokRun st l)
  | [], _, h, _ => h
  | r :: l, st, h, hr => by
    rw [tokStep_cons]
    exact FairT.run l (h.step (hr r (by simp))) fun x hx => hr x (by simp [hx])
set_option maxRecDepth 100000 in
theorem ok_blank : okR 32 := by decide
set_option maxRecDepth 100000 in
theorem allT_term (s : ByteArray) : ∀ t ∈ allT s, Term t := by
  refine (fair0.run (runesOf s ++ [32]) fun r hr => ?_).out
  rcases List.mem_append.1 hr with h | h
  · exact runesOf_ok s r h
  · simp at h; subst h; exact ok_blank
set_option maxRecDepth 100000 in
/-- Letters that are folded and fit go on with the open word. -/
theorem run_letters : ∀ (q c : List Nat), (∀ x ∈ q, okR x ∧ classZ (x : Int) ≠ 0 ∧ foldN x = x) → (c ++ textL q).length ≤ 16 → ∀ b : Bool, tokRun ⟨[], c, false, b⟩ q = ⟨[], c ++ textL q, false, b || !q.isEmpty⟩
  | [], c, _, _, b => by simp [tokRun, textL]
  | x :: q, c, h, hl, b => by
    obtain ⟨_, hx2, hx3⟩ := h x (by simp)
    have e : textL (x :: q) = encR x ++ textL q := rfl
    rw [e] at hl ⊢
    rw [tokStep_cons]
    have hs : tokStep ⟨[], c, false, b⟩ x = ⟨[], c ++ encR x, false, true⟩ := by
      unfold tokStep
      rw [if_neg hx2, hx3, if_neg]
      simp only [List.length_append] at hl
      simp
      omega
    rw [hs, run_letters q (c ++ encR x) (fun y hy => h y (by simp [hy])) (by simpa using hl) true]
    simp
set_option maxRecDepth 100000 in
theorem allT_of_term {t : List Nat} (h : Term t) : allT (byteText t) = [t] := by
  obtain ⟨q, hq, rfl, hq2⟩ := h.ex
  have hr : runesOf (byteText (textL q)) = q := by
    have := runes_textZ (ints q)
    rw [norm_ints fun x hx => (hq2 x hx).1] at this
    have e : textZ (ints q) = byteText (textL q) := by
      unfold textZ
      rw [textB_textL, norm_ints fun x hx => (hq2 x hx).1]
    rw [← e]
    exact this
  unfold allT allR
  rw [hr, tokRun_snoc]
  have := run_letters q [] hq2 (by simpa using h.len) false
  unfold tok0
  rw [this]
  unfold tokStep
  rw [if_pos class_blank]
  cases q with
  | nil => exact absurd rfl hq
  | cons x q => simp
set_option maxRecDepth 100000 in
theorem term_pos {t : List Nat} (h : Term t) : 1 ≤ t.length := by
  obtain ⟨q, hq, rfl, _⟩ := h.ex
  cases q with
  | nil => exact absurd rfl hq
  | cons x q =>
    have := encR_len x
    have e : textL (x :: q) = encR x ++ textL q := rfl
    rw [e, List.length_append]
    omega

/-! ### Stop words, places -/
def stopsL : List (List Nat) := [[97], [97, 110], [97, 110, 100], [97, 114, 101], [97, 115], [97, 116], [98, 101], [98, 121], [102, 111, 114], [105, 110], [105, 115], [105, 116], [111, 102], [111, 110], [111, 114], [116, 104, 101], [116, 111]]
def stopB (t : List Nat) : Bool := stopsL.contains t
/-- The words that are no stop words, with their places. -/
def placesF : Nat → List (List Nat) → List (List Nat × Nat)
  | _, [] => []
  | n, t :: l => if stopB t then placesF (n + 1) l else (t, n) :: placesF (n + 1) l
def wordsT (s : ByteArray) : List (List Nat × Nat) := placesF 0 (allT s)
set_option maxRecDepth 100000 in
theorem places_append : ∀ (a b : List (List Nat)) (n : Nat), placesF n (a ++ b) = placesF n a ++ placesF (n + a.length) b
  | [], b, n => by simp [placesF]
  | t :: a, b, n => by
    rw [List.cons_append, placesF, placesF, places_append a b (n + 1), List.length_cons, show n + 1 + a.length = n + (a.length + 1) by omega]
    split <;> rfl
set_option maxRecDepth 100000 in
theorem places_shift : ∀ (l : List (List Nat)) (n k : Nat), placesF (n + k) l = (placesF n l).map fun x => (x.1, x.2 + k)
  | [], _, _ => rfl
  | t :: l, n, k => by
    rw [placesF, placesF, show n + k + 1 = (n + 1) + k by omega, places_shift l (n + 1) k]
    split <;> rfl
set_option maxRecDepth 100000 in
theorem words_blank (a b d : ByteArray) (hd : bytesL d = [32]) : wordsT (a ++ d ++ b) = wordsT a ++ (wordsT b).map fun x => (x.1, x.2 + (allT a).length) := by
  unfold wordsT
  rw [allT_blank a b d hd, places_append, places_shift]
set_option maxRecDepth 100000 in
theorem places_term : ∀ (l : List (List Nat)) (n : Nat) (x : List Nat × Nat), x ∈ placesF n l → x.1 ∈ l ∧ stopB x.1 = false ∧ n ≤ x.2
  | [], _, _, h => by simp [placesF] at h
  | t :: l, n, x, h => by
    rw [placesF] at h
    split at h
    · have := places_term l (n + 1) x h
      exact ⟨by simp [this.1], this.2.1, by omega⟩
    · rename_i hs
      rcases List.mem_cons.1 h with rfl | h
      · exact ⟨by simp, by simpa using hs, Nat.le_refl _⟩
      · have := places_term l (n + 1) x h
        exact ⟨by simp [this.1], this.2.1, by omega⟩
set_option maxRecDepth 100000 in
theorem words_of_term {t : List Nat} (h : Term t) (hs : stopB t = false) : wordsT (byteText t) = [(t, 0)] := by
  unfold wordsT
  rw [allT_of_term h, placesF, hs]
  rfl
set_option maxRecDepth 100000 in
theorem places_len : ∀ (l : List (List Nat)) (n : Nat), (placesF n l).length ≤ l.length
  | [], _ => by simp [placesF]
  | t :: l, n => by
    have := places_len l (n + 1)
    rw [placesF]
    split
    · simp; omega
    · simp; omega
set_option maxRecDepth 100000 in
/-- The places rise. -/
theorem places_rise : ∀ (l : List (List Nat)) (n : Nat), (placesF n l).Pairwise fun x y => x.2 < y.2
  | [], _ => by simp [placesF]
  | t :: l, n => by
    have h := places_rise l (n + 1)
    rw [placesF]
    split
    · exact h
    · refine List.Pairwise.cons (fun y hy => ?_) h
      have := (places_term l (n + 1) y hy).2.2
      simp only
      omega
end Go.Proofs.YtaaeooimalglaaaDoor
