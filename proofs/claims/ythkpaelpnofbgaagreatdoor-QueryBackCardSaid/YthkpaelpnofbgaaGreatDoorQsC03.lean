/-
  The words of a text, without the program's text: rune by rune with the word that is open; case, one behind the other, a term's own word.
-/
import Derived.Test.YthkpaelpnofbgaaGreatDoorQsC02
import Derived.Test.YthkpaelpnofbgaaGreatDoorQsC01
import Derived.OwnWalk
import Derived.Laws.AppendOwn
namespace Go.Proofs.YthkpaelpnofbgaaGreatDoor

/-- A rune's number, folded. -/
def foldN (r : Nat) : Nat := (foldZ (r : Int)).toNat
set_option maxRecDepth 100000 in
theorem fold_ok {r : Nat} (h : okR r) : ((foldN r : Nat) : Int) = foldZ (r : Int) ∧ okR (foldN r) := by
  have key : 0 ≤ foldZ (r : Int) ∧ okR (foldZ (r : Int)).toNat := by
    unfold okR at *
    by_cases hn : r < 1642
    · have := fold_small r hn
      omega
    · rw [fold_far (by omega)]
      omega
  unfold foldN
  exact ⟨by omega, key.2⟩
where
  fold_small : ∀ r : Nat, r < 1642 → 0 ≤ foldZ (r : Int) ∧ foldZ (r : Int) < 1700 := by decide +kernel
set_option maxRecDepth 100000 in
theorem foldN_once {r : Nat} (h : okR r) : foldN (foldN r) = foldN r ∧ classZ ((foldN r : Nat) : Int) = classZ (r : Int) := by
  have h1 := fold_ok h
  have h2 := fold_once (r : Int)
  refine ⟨?_, by rw [h1.1]; exact h2.2⟩
  rw [show foldN (foldN r) = (foldZ ((foldN r : Nat) : Int)).toNat from rfl, h1.1, h2.1]
  rfl

/-! ### Rune by rune -/
/-- The words so far, the open one's bytes, whether no more of it fits, whether one is open. -/
structure TokSt where
  out : List (List Nat)
  cur : List Nat
  full : Bool
  some : Bool
def tok0 : TokSt := ⟨[], [], false, false⟩
def tokStep (st : TokSt) (r : Nat) : TokSt :=
  if classZ (r : Int) = 0 then ⟨if st.some then st.out ++ [st.cur] else st.out, [], false, false⟩
  else if st.full = true ∨ 16 < st.cur.length + (encR (foldN r)).length then ⟨st.out, st.cur, true, true⟩
  else ⟨st.out, st.cur ++ encR (foldN r), st.full, true⟩
def tokRun (st : TokSt) (l : List Nat) : TokSt := l.foldl tokStep st
/-- All words' terms, stop words too. -/
def allR (l : List Nat) : List (List Nat) := (tokRun tok0 (l ++ [32])).out
def allT (s : ByteArray) : List (List Nat) := allR (runesOf s)

set_option maxRecDepth 100000 in
theorem tokRun_append (st : TokSt) (a b : List Nat) : tokRun st (a ++ b) = tokRun (tokRun st a) b := List.foldl_append
set_option maxRecDepth 100000 in
theorem tokRun_snoc (st : TokSt) (a : List Nat) (r : Nat) : tokRun st (a ++ [r]) = tokStep (tokRun st a) r := by rw [tokRun_append]; rfl
set_option maxRecDepth 100000 in
theorem tokStep_cons (st : TokSt) (r : Nat) (l : List Nat) : tokRun st (r :: l) = tokRun (tokStep st r) l := rfl
set_option maxRecDepth 100000 in
/-- What stood before stays. -/
theorem tokStep_pre (o : List (List Nat)) (st : TokSt) (r : Nat) : tokStep ⟨o ++ st.out, st.cur, st.full, st.some⟩ r = ⟨o ++ (tokStep st r).out, (tokStep st r).cur, (tokStep st r).full, (tokStep st r).some⟩ := by
  unfold tokStep
  by_cases h1 : classZ (r : Int) = 0
  · rw [if_pos h1, if_pos h1]
    cases st.some <;> simp
  · rw [if_neg h1, if_neg h1]
    by_cases h2 : st.full = true ∨ 16 < st.cur.length + (encR (foldN r)).length
    · rw [if_pos h2, if_pos h2]
    · rw [if_neg h2, if_neg h2]
set_option maxRecDepth 100000 in
theorem tokRun_pre (o : List (List Nat)) : ∀ (l : List Nat) (st : TokSt), tokRun ⟨o ++ st.out, st.cur, st.full, st.some⟩ l = ⟨o ++ (tokRun st l).out, (tokRun st l).cur, (tokRun st l).full, (tokRun st l).some⟩
  | [], _ => rfl
  | r :: l, st => by rw [tokStep_cons, tokStep_cons, tokStep_pre, tokRun_pre o l]
set_option maxRecDepth 100000 in
theorem class_blank : classZ ((32 : Nat) : Int) = 0 := by decide +kernel
set_option maxRecDepth 100000 in
theorem blank_state (st : TokSt) : ∃ o, tokStep st 32 = ⟨o, [], false, false⟩ := by
  unfold tokStep
  rw [if_pos class_blank]
  exact ⟨_, rfl⟩
set_option maxRecDepth 100000 in
/-- One behind the other. -/
theorem allR_blank (a b : List Nat) : allR (a ++ 32 :: b) = allR a ++ allR b := by
  unfold allR
  rw [show a ++ 32 :: b ++ [32] = (a ++ [32]) ++ (b ++ [32]) by simp, tokRun_append]
  obtain ⟨o, ho⟩ := blank_state (tokRun tok0 a)
  rw [← tokRun_snoc] at ho
  rw [ho]
  have := tokRun_pre o (b ++ [32]) tok0
  simp only [tok0, List.append_nil] at this
  rw [this]
  rfl
set_option maxRecDepth 100000 in
theorem allT_blank (a b d : ByteArray) (hd : bytesL d = [32]) : allT (a ++ d ++ b) = allT a ++ allT b := by
  unfold allT
  rw [runesOf_apart a b 32 d hd (by decide), allR_blank]

/-! ### Case -/
set_option maxRecDepth 100000 in
theorem tokStep_fold (st : TokSt) {r : Nat} (h : okR r) : tokStep st (foldN r) = tokStep st r := by
  obtain ⟨h1, h2⟩ := foldN_once h
  unfold tokStep
  rw [h1, h2]
set_option maxRecDepth 100000 in
theorem tokRun_fold : ∀ (l : List Nat) (st : TokSt), (∀ r ∈ l, okR r) → tokRun st (l.map foldN) = tokRun st l
  | [], _, _ => rfl
  | r :: l, st, h => by
    rw [List.map_cons, tokStep_cons, tokStep_cons, tokStep_fold st (h r (by simp)), tokRun_fold l _ fun x hx => h x (by simp [hx])]
set_option maxRecDepth 100000 in
theorem allR_fold (l : List Nat) (h : ∀ r ∈ l, okR r) : allR (l.map foldN) = allR l := by
  unfold allR
  rw [tokRun_append, tokRun_append, tokRun_fold l tok0 h]
set_option maxRecDepth 100000 in
theorem ints_fold {l : List Nat} (h : ∀ r ∈ l, okR r) : ints (l.map foldN) = (ints l).map foldZ := by
  unfold ints
  rw [List.map_map, List.map_map]
  apply List.map_congr_left
  intro r hr
  exact (fold_ok (h r hr)).1
set_option maxRecDepth 100000 in
theorem allT_fold (s : ByteArray) : allT (textZ ((ints (runesOf s)).map foldZ)) = allT s := by
  unfold allT
  rw [← ints_fold (runesOf_ok s), runes_textZ, norm_ints (fun x hx => by obtain ⟨r, hr, rfl⟩ := List.mem_map.1 hx; exact (fold_ok (runesOf_ok s r hr)).2), allR_fold _ (runesOf_ok s)]

/-! ### A term's own words -/
/-- The bytes of runes that are letters or digits, folded, no more than sixteen. -/
structure Term (t : List Nat) : Prop where
  ex : ∃ q : List Nat, q ≠ [] ∧ t = textL q ∧ ∀ x ∈ q, okR x ∧ classZ (x : Int) ≠ 0 ∧ foldN x = x
  len : t.length ≤ 16
structure FairT (st : TokSt) : Prop where
  out : ∀ t ∈ st.out, Term t
  cur : st.some = true → Term st.cur
  no : st.some = false → st.cur = [] ∧ st.full = false
set_option maxRecDepth 100000 in
theorem fair0 : FairT tok0 := ⟨by simp [tok0], by simp [tok0], fun _ => ⟨rfl, rfl⟩⟩
set_option maxRecDepth 100000 in
theorem FairT.step {st : TokSt} (h : FairT st) {r : Nat} (hr : okR r) : FairT (tokStep st r) := by
  unfold tokStep
  by_cases h1 : classZ (r : Int) = 0
  · rw [if_pos h1]
    refine ⟨?_, by simp, fun _ => ⟨rfl, rfl⟩⟩
    cases hs : st.some
    · simpa using h.out
    · intro t ht
      simp at ht
      rcases ht with ht | rfl
      · exact h.out t ht
      · exact h.cur hs
  · rw [if_neg h1]
    have hf := fold_ok hr
    have ho := foldN_once hr
    have hl := encR_len (foldN r)
    by_cases h2 : st.full = true ∨ 16 < st.cur.length + (encR (foldN r)).length
    · rw [if_pos h2]
      refine ⟨h.out, fun _ => ?_, by simp⟩
      cases hs : st.some
      · obtain ⟨hc, hfu⟩ := h.no hs
        rw [hc, hfu] at h2
        simp at h2
        omega
      · exact h.cur hs
    · rw [if_neg h2]
      refine ⟨h.out, fun _ => ⟨?_, ?_⟩, by simp⟩
      · cases hs : st.some
        · obtain ⟨hc, _⟩ := h.no hs
          refine ⟨[foldN r], by simp, by rw [hc]; simp [textL], ?_⟩
          intro x hx
          simp at hx
          subst hx
          exact ⟨hf.2, by rw [ho.2]; exact h1, ho.1⟩
        · obtain ⟨q, hq, hq2, hq3⟩ := (h.cur hs).ex
          refine ⟨q ++ [foldN r], by simp, ?_, ?_⟩
          · simp only; rw [hq2]; simp [textL]
          · intro x hx
            rcases List.mem_append.1 hx with hx | hx
            · exact hq3 x hx
            · simp at hx
              subst hx
              exact ⟨hf.2, by rw [ho.2]; exact h1, ho.1⟩
      · simp only [List.length_append]
        omega
set_option maxRecDepth 100000 in
theorem FairT.run : ∀ (l : List Nat) {st : TokSt}, FairT st → (∀ r ∈ l, okR r) → FairT (tokRun st l)
  | [], _, h, _ => h
  | r :: l, st, h, hr => by
    rw [tokStep_cons]
    exact FairT.run l (h.step (hr r (by simp))) fun x hx => hr x (by simp [hx])
set_option maxRecDepth 100000 in
theorem ok_blank : okR 32 := by decide
set_option maxRecDepth 100000 in
theorem allT_term (s : ByteArray) : ∀ t ∈ allT s, Term t := by
  refine (fair0.run (runesOf s ++ [32]) fun r hr => ?_).out
  rcases List.mem_append.1 hr with h | h
  · exact runesOf_ok s r h
  · simp at h; subst h; exact ok_blank
set_option maxRecDepth 100000 in
/-- Letters that are folded and fit go on with the open word. -/
theorem run_letters : ∀ (q c : List Nat), (∀ x ∈ q, okR x ∧ classZ (x : Int) ≠ 0 ∧ foldN x = x) → (c ++ textL q).length ≤ 16 → ∀ b : Bool, tokRun ⟨[], c, false, b⟩ q = ⟨[], c ++ textL q, false, b || !q.isEmpty⟩
  | [], c, _, _, b => by simp [tokRun, textL]
  | x :: q, c, h, hl, b => by
    obtain ⟨_, hx2, hx3⟩ := h x (by simp)
    have e : textL (x :: q) = encR x ++ textL q := rfl
    rw [e] at hl ⊢
    rw [tokStep_cons]
    have hs : tokStep ⟨[], c, false, b⟩ x = ⟨[], c ++ encR x, false, true⟩ := by
      unfold tokStep
      rw [if_neg hx2, hx3, if_neg]
      simp only [List.length_append] at hl
      simp
      omega
    rw [hs, run_letters q (c ++ encR x) (fun y hy => h y (by simp [hy])) (by simpa using hl) true]
    simp
set_option maxRecDepth 100000 in
theorem allT_of_term {t : List Nat} (h : Term t) : allT (byteText t) = [t] := by
  obtain ⟨q, hq, rfl, hq2⟩ := h.ex
  have hr : runesOf (byteText (textL q)) = q := by
    have := runes_textZ (ints q)
    rw [norm_ints fun x hx => (hq2 x hx).1] at this
    have e : textZ (ints q) = byteText (textL q) := by
      unfold textZ
      rw [textB_textL, norm_ints fun x hx => (hq2 x hx).1]
    rw [← e]
    exact this
  unfold allT allR
  rw [hr, tokRun_snoc]
  have := run_letters q [] hq2 (by simpa using h.len) false
  unfold tok0
  rw [this]
  unfold tokStep
  rw [if_pos class_blank]
  cases q with
  | nil => exact absurd rfl hq
  | cons x q => simp
set_option maxRecDepth 100000 in
theorem term_pos {t : List Nat} (h : Term t) : 1 ≤ t.length := by
  obtain ⟨q, hq, rfl, _⟩ := h.ex
  cases q with
  | nil => exact absurd rfl hq
  | cons x q =>
    have := encR_len x
    have e : textL (x :: q) = encR x ++ textL q := rfl
    rw [e, List.length_append]
    omega

/-! ### Stop words, places -/
def stopsL : List (List Nat) := [[97], [97, 110], [97, 110, 100], [97, 114, 101], [97, 115], [97, 116], [98, 101], [98, 121], [102, 111, 114], [105, 110], [105, 115], [105, 116], [111, 102], [111, 110], [111, 114], [116, 104, 101], [116, 111]]
def stopB (t : List Nat) : Bool := stopsL.contains t
/-- The words that are no stop words, with their places. -/
def placesF : Nat → List (List Nat) → List (List Nat × Nat)
  | _, [] => []
  | n, t :: l => if stopB t then placesF (n + 1) l else (t, n) :: placesF (n + 1) l
def wordsT (s : ByteArray) : List (List Nat × Nat) := placesF 0 (allT s)
set_option maxRecDepth 100000 in
theorem places_append : ∀ (a b : List (List Nat)) (n : Nat), placesF n (a ++ b) = placesF n a ++ placesF (n + a.length) b
  | [], b, n => by simp [placesF]
  | t :: a, b, n => by
    rw [List.cons_append, placesF, placesF, places_append a b (n + 1), List.length_cons, show n + 1 + a.length = n + (a.length + 1) by omega]
    split <;> rfl
set_option maxRecDepth 100000 in
theorem places_shift : ∀ (l : List (List Nat)) (n k : Nat), placesF (n + k) l = (placesF n l).map fun x => (x.1, x.2 + k)
  | [], _, _ => rfl
  | t :: l, n, k => by
    rw [placesF, placesF, show n + k + 1 = (n + 1) + k by omega, places_shift l (n + 1) k]
    split <;> rfl
set_option maxRecDepth 100000 in
theorem words_blank (a b d : ByteArray) (hd : bytesL d = [32]) : wordsT (a ++ d ++ b) = wordsT a ++ (wordsT b).map fun x => (x.1, x.2 + (allT a).length) := by
  unfold wordsT
  rw [allT_blank a b d hd, places_append, places_shift]
set_option maxRecDepth 100000 in
theorem places_term : ∀ (l : List (List Nat)) (n : Nat) (x : List Nat × Nat), x ∈ placesF n l → x.1 ∈ l ∧ stopB x.1 = false ∧ n ≤ x.2
  | [], _, _, h => by simp [placesF] at h
  | t :: l, n, x, h => by
    rw [placesF] at h
    split at h
    · have := places_term l (n + 1) x h
      exact ⟨by simp [this.1], this.2.1, by omega⟩
    · rename_i hs
      rcases List.mem_cons.1 h with rfl | h
      · exact ⟨by simp, by simpa using hs, Nat.le_refl _⟩
      · have := places_term l (n + 1) x h
        exact ⟨by simp [this.1], this.2.1, by omega⟩
set_option maxRecDepth 100000 in
theorem words_of_term {t : List Nat} (h : Term t) (hs : stopB t = false) : wordsT (byteText t) = [(t, 0)] := by
  unfold wordsT
  rw [allT_of_term h, placesF, hs]
  rfl
set_option maxRecDepth 100000 in
theorem places_len : ∀ (l : List (List Nat)) (n : Nat), (placesF n l).length ≤ l.length
  | [], _ => by simp [placesF]
  | t :: l, n => by
    have := places_len l (n + 1)
    rw [placesF]
    split
    · simp; omega
    · simp; omega
set_option maxRecDepth 100000 in
/-- The places rise. -/
theorem places_rise : ∀ (l : List (List Nat)) (n : Nat), (placesF n l).Pairwise fun x y => x.2 < y.2
  | [], _ => by simp [placesF]
  | t :: l, n => by
    have h := places_rise l (n + 1)
    rw [placesF]
    split
    · exact h
    · refine List.Pairwise.cons (fun y hy => ?_) h
      have := (places_term l (n + 1) y hy).2.2
      simp only
      omega
end Go.Proofs.YthkpaelpnofbgaaGreatDoor
/-
  Words and trees in memory, that are only read. Over the program's own text.
-/
namespace Go.Proofs.YthkpaelpnofbgaaGreatDoor
open Go.RowKit

/-! ### Words in memory -/
/-- A word: its field, its term, its place. -/
abbrev Tk := Int × ByteArray × Int
def tokC (x : Tk) : List Value := [.int .u8 x.1, .string x.2.1, .int .i64 x.2.2]
def toksC (l : List Tk) : List Value := l.flatMap tokC
set_option maxRecDepth 100000 in
theorem toksC_append (a b : List Tk) : toksC (a ++ b) = toksC a ++ toksC b := List.flatMap_append
set_option maxRecDepth 100000 in
theorem toksC_length : ∀ l : List Tk, (toksC l).length = l.length * 3
  | [] => rfl
  | x :: l => by
    have e : toksC (x :: l) = tokC x ++ toksC l := rfl
    rw [e, List.length_append, toksC_length l, List.length_cons]
    simp [tokC]
    omega
set_option maxRecDepth 100000 in
theorem toksC_get : ∀ (l : List Tk) (j : Nat) (x : Tk), l[j]? = some x → (toksC l)[j * 3]? = some (.int .u8 x.1) ∧ (toksC l)[j * 3 + 1]? = some (.string x.2.1) ∧ (toksC l)[j * 3 + 2]? = some (.int .i64 x.2.2)
  | [], j, x, h => by simp at h
  | y :: l, 0, x, h => by
    simp at h
    subst h
    exact ⟨rfl, rfl, rfl⟩
  | y :: l, j + 1, x, h => by
    have := toksC_get l j x (by simpa using h)
    have e : toksC (y :: l) = tokC y ++ toksC l := rfl
    rw [e, show (j + 1) * 3 = (tokC y).length + j * 3 by simp [tokC]; omega]
    refine ⟨?_, ?_, ?_⟩
    · rw [List.getElem?_append_right (by omega), Nat.add_sub_cancel_left]; exact this.1
    · rw [Nat.add_assoc, List.getElem?_append_right (by omega), Nat.add_sub_cancel_left]; exact this.2.1
    · rw [Nat.add_assoc, List.getElem?_append_right (by omega), Nat.add_sub_cancel_left]; exact this.2.2
def ToksIn (w : World) (base : Nat) (v : Value) (l : List Tk) : Prop := w.ownsRow base 43 3 v l.length (toksC l)
set_option maxRecDepth 100000 in
theorem info_tok : (Tryz.prog.info? 43).map (fun i => (i.zero, i.size, i.bytes)) = some (some (.agg #[.int .u8 0, .string ⟨#[]⟩, .int .i64 0]), 3, 32) := by kernel_rfl
/-- A row of words that is only read. -/
def ReadT (w : World) (oa : Option Addr) (l : List Tk) : Prop := ∀ (j : Nat) (x : Tk), l[j]? = some x → ∃ g o : Nat, oa = some ⟨g, o, none⟩ ∧ w.cell? ⟨g, o + j * 3, none⟩ = some (.int .u8 x.1) ∧ w.cell? ⟨g, o + j * 3 + 1, none⟩ = some (.string x.2.1) ∧ w.cell? ⟨g, o + j * 3 + 2, none⟩ = some (.int .i64 x.2.2)
set_option maxRecDepth 100000 in
theorem ReadT.below {w w' : World} {oa : Option Addr} {l : List Tk} (h : ReadT w oa l) (hb : Below w.heap.size w w') : ReadT w' oa l := fun j x hj => by
  obtain ⟨g, o, h0, h1, h2, h3⟩ := h j x hj
  exact ⟨g, o, h0, below_cell h1 hb, below_cell h2 hb, below_cell h3 hb⟩
set_option maxRecDepth 100000 in
theorem toks_reads {w : World} {base : Nat} {v : Value} {l : List Tk} (h : ToksIn w base v l) : ∃ oa cap, v = .slice oa l.length cap ∧ l.length ≤ cap ∧ cap ≤ maxLen ∧ ReadT w oa l := by
  rcases h.2 with ⟨rfl, h0⟩ | ⟨g, cap, cur, rfl, hb, hg, hn, hm, hs, ht⟩
  · have : l = [] := List.eq_nil_of_length_eq_zero h0
    subst this
    exact ⟨none, 0, rfl, by simp, by simp [maxLen], fun j x hj => by simp at hj⟩
  · refine ⟨_, cap, rfl, hn, hm, fun j x hj => ⟨g, 0, rfl, ?_⟩⟩
    have h3 := toksC_get l j x hj
    have hc := World.ownsRow.cells h (g := g) rfl
    simp only [Addr.add_lit] at hc
    exact ⟨hc _ _ h3.1, by simpa [Nat.add_assoc] using hc _ _ h3.2.1, by simpa [Nat.add_assoc] using hc _ _ h3.2.2⟩
/-- A tree. -/
inductive Nd where
  | mk (kind field : Int) (terms : List Tk) (kids : List Nd)
def Nd.kind : Nd → Int | .mk k _ _ _ => k
def Nd.field : Nd → Int | .mk _ f _ _ => f
def Nd.terms : Nd → List Tk | .mk _ _ t _ => t
def Nd.kids : Nd → List Nd | .mk _ _ _ l => l


set_option maxRecDepth 100000 in
theorem some_ne {α : Type} {l : List α} {j : Nat} {x : α} (h : l[j]? = some x) : l ≠ [] := by rintro rfl; simp at h
set_option maxRecDepth 100000 in
theorem cell_lt {w : World} {a : Addr} {v : Value} (h : w.cell? a = some v) : a.block < w.heap.size := by
  unfold World.cell? at h
  rcases Nat.lt_or_ge a.block w.heap.size with h1 | h1
  · exact h1
  · rw [Array.getElem?_eq_none h1] at h
    simp at h
/-- A node as a struct: its kind, its field, the values of its two slices. -/
abbrev Rn := Int × Int × Value × Value
def rnC (r : Rn) : List Value := [.int .i64 r.1, .int .u8 r.2.1, r.2.2.1, r.2.2.2]
def rnsC (l : List Rn) : List Value := l.flatMap rnC
set_option maxRecDepth 100000 in
theorem rnsC_append (a b : List Rn) : rnsC (a ++ b) = rnsC a ++ rnsC b := List.flatMap_append
set_option maxRecDepth 100000 in
theorem rnsC_length : ∀ l : List Rn, (rnsC l).length = l.length * 4
  | [] => rfl
  | x :: l => by
    show (rnC x ++ rnsC l).length = _
    rw [List.length_append, rnsC_length l, List.length_cons]
    show 4 + _ = _
    omega
set_option maxRecDepth 100000 in
theorem rnsC_get : ∀ (l : List Rn) (j : Nat) (r : Rn), l[j]? = some r → ∀ i, i < 4 → (rnsC l)[j * 4 + i]? = (rnC r)[i]?
  | [], _, _, h, _, _ => by simp at h
  | x :: l, 0, r, h, i, hi => by
    simp at h; subst h
    show (rnC x ++ rnsC l)[0 * 4 + i]? = _
    rw [List.getElem?_append_left (by show _ < 4; omega)]
    simp
  | x :: l, j + 1, r, h, i, hi => by
    show (rnC x ++ rnsC l)[(j + 1) * 4 + i]? = _
    rw [List.getElem?_append_right (by show 4 ≤ _; omega), ← rnsC_get l j r (by simpa using h) i hi]
    congr 1
    show (j + 1) * 4 + i - 4 = _
    omega
def ReadR (w : World) (oa : Option Addr) (l : List Rn) : Prop := ∀ (j : Nat) (r : Rn), l[j]? = some r → ∃ g o : Nat, oa = some ⟨g, o, none⟩ ∧ ∀ i v, (rnC r)[i]? = some v → w.cell? ⟨g, o + j * 4 + i, none⟩ = some v
inductive RdN (w : World) (S : Nat → Prop) : Nd → Rn → Prop
  | mk {k f : Int} {ts : List Tk} {ks : List Nd} {ta ka : Option Addr} {tc kc : Nat} {rs : List Rn} (hf0 : 0 ≤ f) (hf1 : f ≤ 255) (ht : ReadT w ta ts) (htl : ts.length ≤ tc) (htm : tc ≤ maxLen) (htb : ∀ a, ta = some a → ts ≠ [] → S a.block)
      (hk : ReadR w ka rs) (hkl : ks.length ≤ kc) (hkm : kc ≤ maxLen) (hkb : ∀ a, ka = some a → ks ≠ [] → S a.block) (hl : rs.length = ks.length) (hr : ∀ (j : Nat) x r, ks[j]? = some x → rs[j]? = some r → RdN w S x r) : RdN w S (.mk k f ts ks) (k, f, .slice ta ts.length tc, .slice ka ks.length kc)
section
variable {w w' : World} {S S' : Nat → Prop}
set_option maxRecDepth 100000 in
theorem cell_keep (hk : ∀ b, S b → b < w.heap.size → w'.heap[b]? = w.heap[b]?) {g o : Nat} {v : Value} (hg : S g) (h : w.cell? ⟨g, o, none⟩ = some v) : w'.cell? ⟨g, o, none⟩ = some v := by
  rw [World.cell?_of_block (hk g hg (cell_lt h))]
  exact h
set_option maxRecDepth 100000 in
theorem readT_keep (hk : ∀ b, S b → b < w.heap.size → w'.heap[b]? = w.heap[b]?) {oa : Option Addr} {l : List Tk} (h : ReadT w oa l) (hb : ∀ a, oa = some a → l ≠ [] → S a.block) : ReadT w' oa l := fun j x hj => by
  obtain ⟨g, o, h1, h2, h3, h4⟩ := h j x hj
  have hg := hb _ h1 (some_ne hj)
  exact ⟨g, o, h1, cell_keep hk hg h2, cell_keep hk hg h3, cell_keep hk hg h4⟩
set_option maxRecDepth 100000 in
theorem len_ne {α β : Type} {a : List α} {b : List β} (h : a.length = b.length) (ha : a ≠ []) : b ≠ [] := by
  rintro rfl
  exact ha (List.eq_nil_of_length_eq_zero h)
set_option maxRecDepth 100000 in
theorem RdN.keep (hk : ∀ b, S b → b < w.heap.size → w'.heap[b]? = w.heap[b]?) {x : Nd} {r : Rn} (h : RdN w S x r) : RdN w' S x r := by
  induction h with
  | mk hf0 hf1 ht htl htm htb hkk hkl hkm hkb hl hr ih =>
    refine .mk hf0 hf1 (readT_keep hk ht htb) htl htm htb (fun j r hj => ?_) hkl hkm hkb hl ih
    obtain ⟨g, o, h1, h2⟩ := hkk j r hj
    exact ⟨g, o, h1, fun i v hv => cell_keep hk (hkb _ h1 (len_ne hl (some_ne hj))) (h2 i v hv)⟩
set_option maxRecDepth 100000 in
theorem RdN.mono {x : Nd} {r : Rn} (h : RdN w S x r) (hS : ∀ b, b < w.heap.size → S b → S' b) : RdN w S' x r := by
  induction h with
  | mk hf0 hf1 ht htl htm htb hkk hkl hkm hkb hln hr ih =>
    refine .mk hf0 hf1 ht htl htm (fun a ha hne => hS _ ?_ (htb a ha hne)) hkk hkl hkm (fun a ha hne => hS _ ?_ (hkb a ha hne)) hln ih
    · rename_i ts _ _ _ _ _ _
      obtain ⟨x, hx⟩ : ∃ x, ts[0]? = some x := by cases ts with | nil => exact absurd rfl hne | cons y l => exact ⟨y, rfl⟩
      obtain ⟨g, o, h1, h2, _⟩ := ht 0 x hx
      rw [ha] at h1
      injection h1 with h1
      subst h1
      exact cell_lt h2
    · rename_i rs
      obtain ⟨x, hx⟩ : ∃ x, rs[0]? = some x := by
        have := len_ne hln.symm hne
        cases rs with | nil => exact absurd rfl this | cons y l => exact ⟨y, rfl⟩
      obtain ⟨g, o, h1, h2⟩ := hkk 0 x hx
      rw [ha] at h1
      injection h1 with h1
      subst h1
      exact cell_lt (h2 0 _ rfl)
set_option maxRecDepth 100000 in
theorem RdN.after {x : Nd} {r : Rn} (h : RdN w S x r) (hb : Below w.heap.size w w') : RdN w' S x r := h.keep fun b _ hb2 => hb.block b hb2
set_option maxRecDepth 100000 in
theorem RdN.mod {x : Nd} {r : Rn} {rb : Nat} (h : RdN w S x r) (hm : Mod (fun k => k = rb) w w') (hl : ∀ b, S b → b ≠ rb) : RdN w' S x r := h.keep fun b h1 h2 => hm.block b h2 (hl b h1)
set_option maxRecDepth 100000 in
theorem RdN.parts {x : Nd} {r : Rn} (h : RdN w S x r) : r.1 = x.kind ∧ r.2.1 = x.field ∧ 0 ≤ x.field ∧ x.field ≤ 255 := by
  cases h with
  | mk hf0 hf1 => exact ⟨rfl, rfl, hf0, hf1⟩
/-- Several. -/
def RdNs (w : World) (S : Nat → Prop) (ps : List Nd) (rs : List Rn) : Prop := rs.length = ps.length ∧ ∀ (j : Nat) x r, ps[j]? = some x → rs[j]? = some r → RdN w S x r
set_option maxRecDepth 100000 in
theorem RdNs.keep (hk : ∀ b, S b → b < w.heap.size → w'.heap[b]? = w.heap[b]?) {ps : List Nd} {rs : List Rn} (h : RdNs w S ps rs) : RdNs w' S ps rs := ⟨h.1, fun j x r h1 h2 => (h.2 j x r h1 h2).keep hk⟩
set_option maxRecDepth 100000 in
theorem RdNs.mono (hS : ∀ b, b < w.heap.size → S b → S' b) {ps : List Nd} {rs : List Rn} (h : RdNs w S ps rs) : RdNs w S' ps rs := ⟨h.1, fun j x r h1 h2 => (h.2 j x r h1 h2).mono hS⟩
set_option maxRecDepth 100000 in
theorem RdNs.one {x : Nd} {r : Rn} (h : RdN w S x r) : RdNs w S [x] [r] := ⟨rfl, fun j y s h1 h2 => by
  cases j with
  | zero => simp at h1 h2; subst h1 h2; exact h
  | succ j => simp at h1⟩
set_option maxRecDepth 100000 in
theorem RdNs.snoc {ps : List Nd} {rs : List Rn} {x : Nd} {r : Rn} (h : RdNs w S ps rs) (hx : RdN w S x r) : RdNs w S (ps ++ [x]) (rs ++ [r]) := by
  refine ⟨by simp [h.1], fun j y s h1 h2 => ?_⟩
  by_cases hj : j < ps.length
  · rw [List.getElem?_append_left hj] at h1
    rw [List.getElem?_append_left (by rw [h.1]; exact hj)] at h2
    exact h.2 j y s h1 h2
  · rw [List.getElem?_append_right (by omega)] at h1
    rw [List.getElem?_append_right (by rw [h.1]; omega), h.1] at h2
    cases hjj : j - ps.length with
    | zero => rw [hjj] at h1 h2; simp at h1 h2; subst h1 h2; exact hx
    | succ m => rw [hjj] at h1; simp at h1
end
/-- A node as a value. -/
def rnV (r : Rn) : Value := .agg (rnC r).toArray
def fromB (lo b : Nat) : Prop := lo ≤ b
def NodeV (S : Nat → Prop) (w : World) (x : Nd) (v : Value) : Prop := ∃ r, v = rnV r ∧ RdN w S x r
set_option maxRecDepth 100000 in
theorem info_node : (Tryz.prog.info? 25).map (fun i => (i.zero, i.size, i.bytes)) = some (some (.agg #[.int .i64 0, .int .u8 0, .slice none 0 0, .slice none 0 0]), 4, 64) := by kernel_rfl
set_option maxRecDepth 100000 in
theorem node_info (r : Rn) : (Tryz.prog.info? 25).map (·.size) = some (rnC r).toArray.size := by kernel_rfl
set_option maxRecDepth 100000 in
theorem node_one {k f : Int} {ta ka : Option Addr} {tn tc kn kc : Nat} : (rnC (k, f, .slice ta tn tc, .slice ka kn kc)).toArray.all (·.oneCell') = true := by simp [rnC, Value.oneCell']
set_option maxRecDepth 100000 in
theorem RdN.one {w : World} {S : Nat → Prop} {x : Nd} {r : Rn} (h : RdN w S x r) : (rnC r).toArray.all (·.oneCell') = true := by
  cases h with
  | mk => exact node_one
/-- A row of nodes of one's own. -/
def NodesIn (w : World) (base : Nat) (v : Value) (l : List Rn) : Prop := w.ownsRow base 25 4 v l.length (rnsC l)
set_option maxRecDepth 100000 in
theorem nodes_reads {w : World} {base : Nat} {v : Value} {l : List Rn} (h : NodesIn w base v l) : ∃ oa cap, v = .slice oa l.length cap ∧ l.length ≤ cap ∧ cap ≤ maxLen ∧ ReadR w oa l ∧ ∀ a, oa = some a → base ≤ a.block := by
  rcases h.2 with ⟨rfl, h0⟩ | ⟨g, cap, cur, rfl, hb, hg, hn, hm, hs, ht⟩
  · have : l = [] := List.eq_nil_of_length_eq_zero h0
    subst this
    exact ⟨none, 0, rfl, by simp, by simp [maxLen], fun j x hj => by simp at hj, fun a ha => by cases ha⟩
  · refine ⟨_, cap, rfl, hn, hm, fun j r hj => ⟨g, 0, rfl, fun i v hv => ?_⟩, fun a ha => by injection ha with ha; subst ha; exact hb⟩
    have hi : i < 4 := by
      have := (List.getElem?_eq_some_iff.1 hv).1
      exact this
    have h3 := rnsC_get l j r hj i hi
    rw [hv] at h3
    have := World.ownsRow.cells h (g := g) rfl _ v h3
    rw [Nat.zero_add]
    rw [Addr.add_lit, Nat.zero_add] at this
    exact this
end Go.Proofs.YthkpaelpnofbgaaGreatDoor
/-
  The reference of layer 5: letters, digits, and what a number folds to. Over the program's own text.
-/
namespace Go.Proofs.YthkpaelpnofbgaaGreatDoor
open Go.RowKit

set_option maxRecDepth 100000 in
theorem in_yes (w : World) (r lo hi : Int) (h : lo ≤ r ∧ r ≤ hi) : Calls Tryz.prog 100 #[.int .i32 r, .int .i32 lo, .int .i32 hi] w fun e w' => e = .returned (.bool true) ∧ w' = w := by
  obtain ⟨h1, h2⟩ := h
  go_enter Tryz.func100, Tryz.ntmps100
  go_wp2_with fail
  go_ret
  exact ⟨rfl, rfl⟩
set_option maxRecDepth 100000 in
theorem in_no (w : World) (r lo hi : Int) (h : ¬ (lo ≤ r ∧ r ≤ hi)) : Calls Tryz.prog 100 #[.int .i32 r, .int .i32 lo, .int .i32 hi] w fun e w' => e = .returned (.bool false) ∧ w' = w := by
  by_cases h1 : lo ≤ r
  · have h2 : ¬ r ≤ hi := fun h2 => h ⟨h1, h2⟩
    clear h
    go_enter Tryz.func100, Tryz.ntmps100
    go_wp2_with fail
    go_ret
    exact ⟨rfl, rfl⟩
  · clear h
    go_enter Tryz.func100, Tryz.ntmps100
    go_wp2_with fail
    go_ret
    exact ⟨rfl, rfl⟩

def clP (w : World) (r k : Int) : Prop := Calls Tryz.prog 82 #[.int .i32 r] w fun e w' => e = .returned (.int .i64 k) ∧ w' = w
def foP (w : World) (r k : Int) : Prop := Calls Tryz.prog 84 #[.int .i32 r] w fun e w' => e = .returned (.int .i32 k) ∧ w' = w
set_option maxRecDepth 100000 in
theorem tC {p : Prop} (h : p := by
  have q902 : (r == 902) = false := beq_eq_false_iff_ne.2 (by omega)
  have q908 : (r == 908) = false := beq_eq_false_iff_ne.2 (by omega)
  try have b215 : (r != 215) = true := bne_iff_ne.2 (by omega)
  try have b247 : (r != 247) = true := bne_iff_ne.2 (by omega)
  unfold clP
  go_enter Tryz.func82, Tryz.ntmps82
  go_wp2_with (go_at_call 100; first | (refine (in_no _ _ _ _ (by assumption)).mono ?_; rintro _ _ ⟨rfl, rfl⟩) | (refine (in_yes _ _ _ _ (by omega)).mono ?_; rintro _ _ ⟨rfl, rfl⟩) | (refine (in_no _ _ _ _ (by omega)).mono ?_; rintro _ _ ⟨rfl, rfl⟩))
  go_ret
  exact ⟨rfl, rfl⟩) : p := h
set_option maxRecDepth 100000 in
theorem tCs {p : Prop} (h : p := by
  unfold clP
  go_enter Tryz.func82, Tryz.ntmps82
  go_wp2_with (go_at_call 100; first | (refine (in_no _ _ _ _ (by assumption)).mono ?_; rintro _ _ ⟨rfl, rfl⟩) | (refine (in_yes _ _ _ _ (by omega)).mono ?_; rintro _ _ ⟨rfl, rfl⟩) | (refine (in_no _ _ _ _ (by omega)).mono ?_; rintro _ _ ⟨rfl, rfl⟩))
  go_ret
  exact ⟨rfl, rfl⟩) : p := h
set_option maxRecDepth 100000 in
theorem tF {p : Prop} (h : p := by
  have q376 : (r == 376) = false := beq_eq_false_iff_ne.2 (by omega)
  have q383 : (r == 383) = false := beq_eq_false_iff_ne.2 (by omega)
  have q902 : (r == 902) = false := beq_eq_false_iff_ne.2 (by omega)
  have q908 : (r == 908) = false := beq_eq_false_iff_ne.2 (by omega)
  have q962 : (r == 962) = false := beq_eq_false_iff_ne.2 (by omega)
  try have b215 : (r != 215) = true := bne_iff_ne.2 (by omega)
  try have b930 : (r != 930) = true := bne_iff_ne.2 (by omega)
  unfold foP
  go_enter Tryz.func84, Tryz.ntmps84
  go_wp2_with (go_at_call 100; first | (refine (in_no _ _ _ _ (by assumption)).mono ?_; rintro _ _ ⟨rfl, rfl⟩) | (refine (in_yes _ _ _ _ (by omega)).mono ?_; rintro _ _ ⟨rfl, rfl⟩) | (refine (in_no _ _ _ _ (by omega)).mono ?_; rintro _ _ ⟨rfl, rfl⟩))
  go_ret
  exact ⟨rfl, rfl⟩) : p := h
set_option maxRecDepth 100000 in
theorem tFs {p : Prop} (h : p := by
  unfold foP
  go_enter Tryz.func84, Tryz.ntmps84
  go_wp2_with (go_at_call 100; first | (refine (in_no _ _ _ _ (by assumption)).mono ?_; rintro _ _ ⟨rfl, rfl⟩) | (refine (in_yes _ _ _ _ (by omega)).mono ?_; rintro _ _ ⟨rfl, rfl⟩) | (refine (in_no _ _ _ _ (by omega)).mono ?_; rintro _ _ ⟨rfl, rfl⟩))
  go_ret
  exact ⟨rfl, rfl⟩) : p := h
set_option maxHeartbeats 2000000 in
set_option maxRecDepth 100000 in
theorem ref_c48 (w : World) (r : Int) (h : 48 ≤ r ∧ r ≤ 57) : clP w r 2 := by
  obtain ⟨h1, h2⟩ := h
  exact tC
set_option maxHeartbeats 2000000 in
set_option maxRecDepth 100000 in
theorem ref_c1632 (w : World) (r : Int) (h : 1632 ≤ r ∧ r ≤ 1641) : clP w r 2 := by
  obtain ⟨h1, h2⟩ := h
  exact tC
set_option maxHeartbeats 2000000 in
set_option maxRecDepth 100000 in
theorem ref_c65 (w : World) (r : Int) (h : 65 ≤ r ∧ r ≤ 90) : clP w r 1 := by
  obtain ⟨h1, h2⟩ := h
  exact tC
set_option maxHeartbeats 2000000 in
set_option maxRecDepth 100000 in
theorem ref_c97 (w : World) (r : Int) (h : 97 ≤ r ∧ r ≤ 122) : clP w r 1 := by
  obtain ⟨h1, h2⟩ := h
  exact tC
set_option maxHeartbeats 2000000 in
set_option maxRecDepth 100000 in
theorem ref_c192 (w : World) (r : Int) (h1 : 192 ≤ r) (h2 : r ≤ 591) (h3 : r ≠ 215) (h4 : r ≠ 247) : clP w r 1 := by
  exact tC
set_option maxHeartbeats 2000000 in
set_option maxRecDepth 100000 in
theorem ref_c215 (w : World) (r : Int) (h : r = 215) : clP w r 0 := by
  subst h
  exact tCs
set_option maxHeartbeats 2000000 in
set_option maxRecDepth 100000 in
theorem ref_c247 (w : World) (r : Int) (h : r = 247) : clP w r 0 := by
  subst h
  exact tCs
set_option maxHeartbeats 2000000 in
set_option maxRecDepth 100000 in
theorem ref_c902 (w : World) (r : Int) (h : r = 902) : clP w r 1 := by
  subst h
  exact tCs
set_option maxHeartbeats 2000000 in
set_option maxRecDepth 100000 in
theorem ref_c904 (w : World) (r : Int) (h : 904 ≤ r ∧ r ≤ 906) : clP w r 1 := by
  obtain ⟨h1, h2⟩ := h
  exact tC
set_option maxHeartbeats 2000000 in
set_option maxRecDepth 100000 in
theorem ref_c908 (w : World) (r : Int) (h : r = 908) : clP w r 1 := by
  subst h
  exact tCs
set_option maxHeartbeats 2000000 in
set_option maxRecDepth 100000 in
theorem ref_c910 (w : World) (r : Int) (h : 910 ≤ r ∧ r ≤ 929) : clP w r 1 := by
  obtain ⟨h1, h2⟩ := h
  exact tC
set_option maxHeartbeats 2000000 in
set_option maxRecDepth 100000 in
theorem ref_c931 (w : World) (r : Int) (h : 931 ≤ r ∧ r ≤ 974) : clP w r 1 := by
  obtain ⟨h1, h2⟩ := h
  exact tC
set_option maxHeartbeats 2000000 in
set_option maxRecDepth 100000 in
theorem ref_c1024 (w : World) (r : Int) (h : 1024 ≤ r ∧ r ≤ 1153) : clP w r 1 := by
  obtain ⟨h1, h2⟩ := h
  exact tC
set_option maxHeartbeats 2000000 in
set_option maxRecDepth 100000 in
theorem ref_c1162 (w : World) (r : Int) (h : 1162 ≤ r ∧ r ≤ 1327) : clP w r 1 := by
  obtain ⟨h1, h2⟩ := h
  exact tC
set_option maxHeartbeats 2000000 in
set_option maxRecDepth 100000 in
theorem ref_c1488 (w : World) (r : Int) (h : 1488 ≤ r ∧ r ≤ 1514) : clP w r 1 := by
  obtain ⟨h1, h2⟩ := h
  exact tC
set_option maxHeartbeats 2000000 in
set_option maxRecDepth 100000 in
theorem ref_c19968 (w : World) (r : Int) (h : 19968 ≤ r ∧ r ≤ 40959) : clP w r 1 := by
  obtain ⟨h1, h2⟩ := h
  exact tC
set_option maxHeartbeats 2000000 in
set_option maxRecDepth 100000 in
theorem ref_c44032 (w : World) (r : Int) (h : 44032 ≤ r ∧ r ≤ 55203) : clP w r 1 := by
  obtain ⟨h1, h2⟩ := h
  exact tC
set_option maxHeartbeats 2000000 in
set_option maxRecDepth 100000 in
theorem ref_cnone (w : World) (r : Int) (n48 : ¬ (48 ≤ r ∧ r ≤ 57)) (n1632 : ¬ (1632 ≤ r ∧ r ≤ 1641)) (n65 : ¬ (65 ≤ r ∧ r ≤ 90)) (n97 : ¬ (97 ≤ r ∧ r ≤ 122)) (n192 : ¬ (192 ≤ r ∧ r ≤ 591)) (n902 : r ≠ 902) (n904 : ¬ (904 ≤ r ∧ r ≤ 906)) (n908 : r ≠ 908) (n910 : ¬ (910 ≤ r ∧ r ≤ 929)) (n931 : ¬ (931 ≤ r ∧ r ≤ 974)) (n1024 : ¬ (1024 ≤ r ∧ r ≤ 1153)) (n1162 : ¬ (1162 ≤ r ∧ r ≤ 1327)) (n1488 : ¬ (1488 ≤ r ∧ r ≤ 1514)) (n19968 : ¬ (19968 ≤ r ∧ r ≤ 40959)) (n44032 : ¬ (44032 ≤ r ∧ r ≤ 55203)) : clP w r 0 := by
  exact tC
set_option maxRecDepth 100000 in
/-- What the reference's Class answers. -/
theorem ref_class (w : World) (r : Int) : Calls Tryz.prog 82 #[.int .i32 r] w fun e w' => e = .returned (.int .i64 (classZ r)) ∧ w' = w := by
  have two : digitZ r → classZ r = 2 := fun h => by unfold classZ; rw [if_pos h]
  have one : ¬ digitZ r → letterZ r → classZ r = 1 := fun h k => by unfold classZ; rw [if_neg h, if_pos k]
  have zero : ¬ digitZ r → ¬ letterZ r → classZ r = 0 := fun h k => by unfold classZ; rw [if_neg h, if_neg k]
  unfold digitZ letterZ at *
  by_cases n48 : 48 ≤ r ∧ r ≤ 57
  · rw [two (by omega)]; exact ref_c48 w r n48
  by_cases n1632 : 1632 ≤ r ∧ r ≤ 1641
  · rw [two (by omega)]; exact ref_c1632 w r n1632
  by_cases n65 : 65 ≤ r ∧ r ≤ 90
  · rw [one (by omega) (by omega)]; exact ref_c65 w r n65
  by_cases n97 : 97 ≤ r ∧ r ≤ 122
  · rw [one (by omega) (by omega)]; exact ref_c97 w r n97
  by_cases n192 : 192 ≤ r ∧ r ≤ 591
  · clear n48 n1632 n65 n97
    by_cases e1 : r = 215
    · rw [zero (by omega) (by omega)]; exact ref_c215 w r e1
    by_cases e2 : r = 247
    · rw [zero (by omega) (by omega)]; exact ref_c247 w r e2
    rw [one (by omega) (by omega)]; exact ref_c192 w r n192.1 n192.2 e1 e2
  by_cases n902 : r = 902
  · rw [one (by omega) (by omega)]; exact ref_c902 w r n902
  by_cases n904 : 904 ≤ r ∧ r ≤ 906
  · rw [one (by omega) (by omega)]; exact ref_c904 w r n904
  by_cases n908 : r = 908
  · rw [one (by omega) (by omega)]; exact ref_c908 w r n908
  by_cases n910 : 910 ≤ r ∧ r ≤ 929
  · rw [one (by omega) (by omega)]; exact ref_c910 w r n910
  by_cases n931 : 931 ≤ r ∧ r ≤ 974
  · rw [one (by omega) (by omega)]; exact ref_c931 w r n931
  by_cases n1024 : 1024 ≤ r ∧ r ≤ 1153
  · rw [one (by omega) (by omega)]; exact ref_c1024 w r n1024
  by_cases n1162 : 1162 ≤ r ∧ r ≤ 1327
  · rw [one (by omega) (by omega)]; exact ref_c1162 w r n1162
  by_cases n1488 : 1488 ≤ r ∧ r ≤ 1514
  · rw [one (by omega) (by omega)]; exact ref_c1488 w r n1488
  by_cases n19968 : 19968 ≤ r ∧ r ≤ 40959
  · rw [one (by omega) (by omega)]; exact ref_c19968 w r n19968
  by_cases n44032 : 44032 ≤ r ∧ r ≤ 55203
  · rw [one (by omega) (by omega)]; exact ref_c44032 w r n44032
  rw [zero (by omega) (by omega)]
  exact ref_cnone w r n48 n1632 n65 n97 n192 n902 n904 n908 n910 n931 n1024 n1162 n1488 n19968 n44032

set_option maxHeartbeats 2000000 in
set_option maxRecDepth 100000 in
theorem ref_f65 (w : World) (r : Int) (h : 65 ≤ r ∧ r ≤ 90) : foP w r (r + 32) := by
  obtain ⟨h1, h2⟩ := h
  exact tF
set_option maxHeartbeats 2000000 in
set_option maxRecDepth 100000 in
theorem ref_f192 (w : World) (r : Int) (h1 : 192 ≤ r) (h2 : r ≤ 222) (h3 : r ≠ 215) : foP w r (r + 32) := by
  exact tF
set_option maxHeartbeats 2000000 in
set_option maxRecDepth 100000 in
theorem ref_f215 (w : World) (r : Int) (h : r = 215) : foP w r (r) := by
  subst h
  exact tFs
set_option maxHeartbeats 2000000 in
set_option maxRecDepth 100000 in
theorem ref_f913 (w : World) (r : Int) (h1 : 913 ≤ r) (h2 : r ≤ 939) (h3 : r ≠ 930) : foP w r (r + 32) := by
  exact tF
set_option maxHeartbeats 2000000 in
set_option maxRecDepth 100000 in
theorem ref_f930 (w : World) (r : Int) (h : r = 930) : foP w r (r) := by
  subst h
  exact tFs
set_option maxHeartbeats 2000000 in
set_option maxRecDepth 100000 in
theorem ref_f1040 (w : World) (r : Int) (h : 1040 ≤ r ∧ r ≤ 1071) : foP w r (r + 32) := by
  obtain ⟨h1, h2⟩ := h
  exact tF
set_option maxHeartbeats 2000000 in
set_option maxRecDepth 100000 in
theorem ref_f256_0 (w : World) (r : Int) (h1 : 256 ≤ r) (h2 : r ≤ 311) (hm : r % 2 = 0) : foP w r (r + 1) := by
  have m0 : (r % 2 == 0) = true := by simp; omega
  have m1 : (r % 2 == 1) = false := by simp; omega
  exact tF
set_option maxHeartbeats 2000000 in
set_option maxRecDepth 100000 in
theorem ref_f256_1 (w : World) (r : Int) (h1 : 256 ≤ r) (h2 : r ≤ 311) (hm : r % 2 = 1) : foP w r (r) := by
  have m0 : (r % 2 == 0) = false := by simp; omega
  have m1 : (r % 2 == 1) = true := by simp; omega
  exact tF
set_option maxHeartbeats 2000000 in
set_option maxRecDepth 100000 in
theorem ref_f330_0 (w : World) (r : Int) (h1 : 330 ≤ r) (h2 : r ≤ 375) (hm : r % 2 = 0) : foP w r (r + 1) := by
  have m0 : (r % 2 == 0) = true := by simp; omega
  have m1 : (r % 2 == 1) = false := by simp; omega
  exact tF
set_option maxHeartbeats 2000000 in
set_option maxRecDepth 100000 in
theorem ref_f330_1 (w : World) (r : Int) (h1 : 330 ≤ r) (h2 : r ≤ 375) (hm : r % 2 = 1) : foP w r (r) := by
  have m0 : (r % 2 == 0) = false := by simp; omega
  have m1 : (r % 2 == 1) = true := by simp; omega
  exact tF
set_option maxHeartbeats 2000000 in
set_option maxRecDepth 100000 in
theorem ref_f1120_0 (w : World) (r : Int) (h1 : 1120 ≤ r) (h2 : r ≤ 1153) (hm : r % 2 = 0) : foP w r (r + 1) := by
  have m0 : (r % 2 == 0) = true := by simp; omega
  have m1 : (r % 2 == 1) = false := by simp; omega
  exact tF
set_option maxHeartbeats 2000000 in
set_option maxRecDepth 100000 in
theorem ref_f1120_1 (w : World) (r : Int) (h1 : 1120 ≤ r) (h2 : r ≤ 1153) (hm : r % 2 = 1) : foP w r (r) := by
  have m0 : (r % 2 == 0) = false := by simp; omega
  have m1 : (r % 2 == 1) = true := by simp; omega
  exact tF
set_option maxHeartbeats 2000000 in
set_option maxRecDepth 100000 in
theorem ref_f1162_0 (w : World) (r : Int) (h1 : 1162 ≤ r) (h2 : r ≤ 1215) (hm : r % 2 = 0) : foP w r (r + 1) := by
  have m0 : (r % 2 == 0) = true := by simp; omega
  have m1 : (r % 2 == 1) = false := by simp; omega
  exact tF
set_option maxHeartbeats 2000000 in
set_option maxRecDepth 100000 in
theorem ref_f1162_1 (w : World) (r : Int) (h1 : 1162 ≤ r) (h2 : r ≤ 1215) (hm : r % 2 = 1) : foP w r (r) := by
  have m0 : (r % 2 == 0) = false := by simp; omega
  have m1 : (r % 2 == 1) = true := by simp; omega
  exact tF
set_option maxHeartbeats 2000000 in
set_option maxRecDepth 100000 in
theorem ref_f1232_0 (w : World) (r : Int) (h1 : 1232 ≤ r) (h2 : r ≤ 1327) (hm : r % 2 = 0) : foP w r (r + 1) := by
  have m0 : (r % 2 == 0) = true := by simp; omega
  have m1 : (r % 2 == 1) = false := by simp; omega
  exact tF
set_option maxHeartbeats 2000000 in
set_option maxRecDepth 100000 in
theorem ref_f1232_1 (w : World) (r : Int) (h1 : 1232 ≤ r) (h2 : r ≤ 1327) (hm : r % 2 = 1) : foP w r (r) := by
  have m0 : (r % 2 == 0) = false := by simp; omega
  have m1 : (r % 2 == 1) = true := by simp; omega
  exact tF
set_option maxHeartbeats 2000000 in
set_option maxRecDepth 100000 in
theorem ref_f313_0 (w : World) (r : Int) (h1 : 313 ≤ r) (h2 : r ≤ 328) (hm : r % 2 = 0) : foP w r (r) := by
  have m0 : (r % 2 == 0) = true := by simp; omega
  have m1 : (r % 2 == 1) = false := by simp; omega
  exact tF
set_option maxHeartbeats 2000000 in
set_option maxRecDepth 100000 in
theorem ref_f313_1 (w : World) (r : Int) (h1 : 313 ≤ r) (h2 : r ≤ 328) (hm : r % 2 = 1) : foP w r (r + 1) := by
  have m0 : (r % 2 == 0) = false := by simp; omega
  have m1 : (r % 2 == 1) = true := by simp; omega
  exact tF
set_option maxHeartbeats 2000000 in
set_option maxRecDepth 100000 in
theorem ref_f377_0 (w : World) (r : Int) (h1 : 377 ≤ r) (h2 : r ≤ 382) (hm : r % 2 = 0) : foP w r (r) := by
  have m0 : (r % 2 == 0) = true := by simp; omega
  have m1 : (r % 2 == 1) = false := by simp; omega
  exact tF
set_option maxHeartbeats 2000000 in
set_option maxRecDepth 100000 in
theorem ref_f377_1 (w : World) (r : Int) (h1 : 377 ≤ r) (h2 : r ≤ 382) (hm : r % 2 = 1) : foP w r (r + 1) := by
  have m0 : (r % 2 == 0) = false := by simp; omega
  have m1 : (r % 2 == 1) = true := by simp; omega
  exact tF
set_option maxHeartbeats 2000000 in
set_option maxRecDepth 100000 in
theorem ref_f376 (w : World) (r : Int) (h : r = 376) : foP w r (255) := by
  subst h
  exact tFs
set_option maxHeartbeats 2000000 in
set_option maxRecDepth 100000 in
theorem ref_f383 (w : World) (r : Int) (h : r = 383) : foP w r (115) := by
  subst h
  exact tFs
set_option maxHeartbeats 2000000 in
set_option maxRecDepth 100000 in
theorem ref_f902 (w : World) (r : Int) (h : r = 902) : foP w r (940) := by
  subst h
  exact tFs
set_option maxHeartbeats 2000000 in
set_option maxRecDepth 100000 in
theorem ref_f908 (w : World) (r : Int) (h : r = 908) : foP w r (972) := by
  subst h
  exact tFs
set_option maxHeartbeats 2000000 in
set_option maxRecDepth 100000 in
theorem ref_f962 (w : World) (r : Int) (h : r = 962) : foP w r (963) := by
  subst h
  exact tFs
set_option maxHeartbeats 2000000 in
set_option maxRecDepth 100000 in
theorem ref_f904 (w : World) (r : Int) (h : 904 ≤ r ∧ r ≤ 906) : foP w r (r + 37) := by
  obtain ⟨h1, h2⟩ := h
  exact tF
set_option maxHeartbeats 2000000 in
set_option maxRecDepth 100000 in
theorem ref_f910 (w : World) (r : Int) (h : 910 ≤ r ∧ r ≤ 911) : foP w r (r + 63) := by
  obtain ⟨h1, h2⟩ := h
  exact tF
set_option maxHeartbeats 2000000 in
set_option maxRecDepth 100000 in
theorem ref_f1024 (w : World) (r : Int) (h : 1024 ≤ r ∧ r ≤ 1039) : foP w r (r + 80) := by
  obtain ⟨h1, h2⟩ := h
  exact tF
set_option maxHeartbeats 2000000 in
set_option maxRecDepth 100000 in
theorem ref_f1632 (w : World) (r : Int) (h : 1632 ≤ r ∧ r ≤ 1641) : foP w r (r - 1584) := by
  obtain ⟨h1, h2⟩ := h
  exact tF
set_option maxHeartbeats 2000000 in
set_option maxRecDepth 100000 in
theorem ref_fnone (w : World) (r : Int) (n65 : ¬ (65 ≤ r ∧ r ≤ 90)) (n192 : ¬ (192 ≤ r ∧ r ≤ 222)) (n913 : ¬ (913 ≤ r ∧ r ≤ 939)) (n1040 : ¬ (1040 ≤ r ∧ r ≤ 1071)) (n256 : ¬ (256 ≤ r ∧ r ≤ 311)) (n330 : ¬ (330 ≤ r ∧ r ≤ 375)) (n1120 : ¬ (1120 ≤ r ∧ r ≤ 1153)) (n1162 : ¬ (1162 ≤ r ∧ r ≤ 1215)) (n1232 : ¬ (1232 ≤ r ∧ r ≤ 1327)) (n313 : ¬ (313 ≤ r ∧ r ≤ 328)) (n377 : ¬ (377 ≤ r ∧ r ≤ 382)) (n376 : r ≠ 376) (n383 : r ≠ 383) (n902 : r ≠ 902) (n908 : r ≠ 908) (n962 : r ≠ 962) (n904 : ¬ (904 ≤ r ∧ r ≤ 906)) (n910 : ¬ (910 ≤ r ∧ r ≤ 911)) (n1024 : ¬ (1024 ≤ r ∧ r ≤ 1039)) (n1632 : ¬ (1632 ≤ r ∧ r ≤ 1641)) : foP w r (r) := by
  exact tF
set_option maxRecDepth 100000 in
set_option maxHeartbeats 2000000 in
/-- What the reference's Fold answers. -/
theorem ref_fold (w : World) (r : Int) : Calls Tryz.prog 84 #[.int .i32 r] w fun e w' => e = .returned (.int .i32 (foldZ r)) ∧ w' = w := by
  have up : upZ r → foldZ r = r + 32 := fun h => by unfold foldZ; rw [if_pos h]
  have ne : ¬ upZ r → ((evenZ r ∧ r % 2 = 0) ∨ (oddZ r ∧ r % 2 = 1)) → foldZ r = r + 1 := fun h k => by unfold foldZ; rw [if_neg h, if_pos k]
  have el : ∀ x, ¬ upZ r → ¬ ((evenZ r ∧ r % 2 = 0) ∨ (oddZ r ∧ r % 2 = 1)) → (if r = 376 then (255 : Int) else if r = 383 then 115 else if r = 902 then 940 else if r = 908 then 972 else if r = 962 then 963
    else if 904 ≤ r ∧ r ≤ 906 then r + 37 else if 910 ≤ r ∧ r ≤ 911 then r + 63 else if 1024 ≤ r ∧ r ≤ 1039 then r + 80 else if 1632 ≤ r ∧ r ≤ 1641 then r - 1584 else r) = x → foldZ r = x := fun x h k hx => by unfold foldZ; rw [if_neg h, if_neg k]; exact hx
  unfold upZ evenZ oddZ at *
  by_cases n65 : 65 ≤ r ∧ r ≤ 90
  · rw [up (by omega)]; exact ref_f65 w r n65
  by_cases n192 : 192 ≤ r ∧ r ≤ 222
  · clear n65
    by_cases e1 : r = 215
    · rw [el r (by omega) (by omega) (by repeat' split <;> omega)]; exact ref_f215 w r e1
    rw [up (by omega)]; exact ref_f192 w r n192.1 n192.2 e1
  by_cases n913 : 913 ≤ r ∧ r ≤ 939
  · clear n65 n192
    by_cases e1 : r = 930
    · rw [el r (by omega) (by omega) (by repeat' split <;> omega)]; exact ref_f930 w r e1
    rw [up (by omega)]; exact ref_f913 w r n913.1 n913.2 e1
  by_cases n1040 : 1040 ≤ r ∧ r ≤ 1071
  · rw [up (by omega)]; exact ref_f1040 w r n1040
  by_cases n256 : 256 ≤ r ∧ r ≤ 311
  · clear n65 n192 n913 n1040 
    by_cases hm : r % 2 = 0
    · rw [ne (by omega) (by omega)]; exact ref_f256_0 w r n256.1 n256.2 hm
    · rw [el r (by omega) (by omega) (by repeat' split <;> omega)]; exact ref_f256_1 w r n256.1 n256.2 (by omega)
  by_cases n330 : 330 ≤ r ∧ r ≤ 375
  · clear n65 n192 n913 n1040 n256
    by_cases hm : r % 2 = 0
    · rw [ne (by omega) (by omega)]; exact ref_f330_0 w r n330.1 n330.2 hm
    · rw [el r (by omega) (by omega) (by repeat' split <;> omega)]; exact ref_f330_1 w r n330.1 n330.2 (by omega)
  by_cases n1120 : 1120 ≤ r ∧ r ≤ 1153
  · clear n65 n192 n913 n1040 n256 n330
    by_cases hm : r % 2 = 0
    · rw [ne (by omega) (by omega)]; exact ref_f1120_0 w r n1120.1 n1120.2 hm
    · rw [el r (by omega) (by omega) (by repeat' split <;> omega)]; exact ref_f1120_1 w r n1120.1 n1120.2 (by omega)
  by_cases n1162 : 1162 ≤ r ∧ r ≤ 1215
  · clear n65 n192 n913 n1040 n256 n330 n1120
    by_cases hm : r % 2 = 0
    · rw [ne (by omega) (by omega)]; exact ref_f1162_0 w r n1162.1 n1162.2 hm
    · rw [el r (by omega) (by omega) (by repeat' split <;> omega)]; exact ref_f1162_1 w r n1162.1 n1162.2 (by omega)
  by_cases n1232 : 1232 ≤ r ∧ r ≤ 1327
  · clear n65 n192 n913 n1040 n256 n330 n1120 n1162
    by_cases hm : r % 2 = 0
    · rw [ne (by omega) (by omega)]; exact ref_f1232_0 w r n1232.1 n1232.2 hm
    · rw [el r (by omega) (by omega) (by repeat' split <;> omega)]; exact ref_f1232_1 w r n1232.1 n1232.2 (by omega)
  by_cases n313 : 313 ≤ r ∧ r ≤ 328
  · clear n65 n192 n913 n1040 n256 n330 n1120 n1162 n1232
    by_cases hm : r % 2 = 0
    · rw [el r (by omega) (by omega) (by repeat' split <;> omega)]; exact ref_f313_0 w r n313.1 n313.2 hm
    · rw [ne (by omega) (by omega)]; exact ref_f313_1 w r n313.1 n313.2 (by omega)
  by_cases n377 : 377 ≤ r ∧ r ≤ 382
  · clear n65 n192 n913 n1040 n256 n330 n1120 n1162 n1232 n313
    by_cases hm : r % 2 = 0
    · rw [el r (by omega) (by omega) (by repeat' split <;> omega)]; exact ref_f377_0 w r n377.1 n377.2 hm
    · rw [ne (by omega) (by omega)]; exact ref_f377_1 w r n377.1 n377.2 (by omega)
  by_cases n376 : r = 376
  · clear n65 n192 n913 n1040 n256 n330 n1120 n1162 n1232 n313 n377
    clear up
    rw [el 255 (by omega) (by omega) (by repeat' split <;> omega)]; exact ref_f376 w r n376
  by_cases n383 : r = 383
  · clear n65 n192 n913 n1040 n256 n330 n1120 n1162 n1232 n313 n377
    clear  n376
    rw [el 115 (by omega) (by omega) (by repeat' split <;> omega)]; exact ref_f383 w r n383
  by_cases n902 : r = 902
  · clear n65 n192 n913 n1040 n256 n330 n1120 n1162 n1232 n313 n377
    clear  n376 n383
    rw [el 940 (by omega) (by omega) (by repeat' split <;> omega)]; exact ref_f902 w r n902
  by_cases n908 : r = 908
  · clear n65 n192 n913 n1040 n256 n330 n1120 n1162 n1232 n313 n377
    clear  n376 n383 n902
    rw [el 972 (by omega) (by omega) (by repeat' split <;> omega)]; exact ref_f908 w r n908
  by_cases n962 : r = 962
  · clear n65 n192 n913 n1040 n256 n330 n1120 n1162 n1232 n313 n377
    clear  n376 n383 n902 n908
    rw [el 963 (by omega) (by omega) (by repeat' split <;> omega)]; exact ref_f962 w r n962
  by_cases n904 : 904 ≤ r ∧ r ≤ 906
  · clear n65 n192 n913 n1040 n256 n330 n1120 n1162 n1232 n313 n377
    clear  n376 n383 n902 n908 n962
    rw [el (r + 37) (by omega) (by omega) (by repeat' split <;> omega)]; exact ref_f904 w r n904
  by_cases n910 : 910 ≤ r ∧ r ≤ 911
  · clear n65 n192 n913 n1040 n256 n330 n1120 n1162 n1232 n313 n377
    clear  n376 n383 n902 n908 n962 n904
    rw [el (r + 63) (by omega) (by omega) (by repeat' split <;> omega)]; exact ref_f910 w r n910
  by_cases n1024 : 1024 ≤ r ∧ r ≤ 1039
  · clear n65 n192 n913 n1040 n256 n330 n1120 n1162 n1232 n313 n377
    clear  n376 n383 n902 n908 n962 n904 n910
    rw [el (r + 80) (by omega) (by omega) (by repeat' split <;> omega)]; exact ref_f1024 w r n1024
  by_cases n1632 : 1632 ≤ r ∧ r ≤ 1641
  · clear n65 n192 n913 n1040 n256 n330 n1120 n1162 n1232 n313 n377
    clear  n376 n383 n902 n908 n962 n904 n910 n1024
    rw [el (r - 1584) (by omega) (by omega) (by repeat' split <;> omega)]; exact ref_f1632 w r n1632
  have k1 : ¬ ((65 ≤ r ∧ r ≤ 90) ∨ (192 ≤ r ∧ r ≤ 222 ∧ r ≠ 215) ∨ (913 ≤ r ∧ r ≤ 939 ∧ r ≠ 930) ∨ (1040 ≤ r ∧ r ≤ 1071)) := by
    rintro (h | h | h | h)
    · exact n65 h
    · exact n192 ⟨h.1, h.2.1⟩
    · exact n913 ⟨h.1, h.2.1⟩
    · exact n1040 h
  have k2 : ¬ ((((256 ≤ r ∧ r ≤ 311) ∨ (330 ≤ r ∧ r ≤ 375) ∨ (1120 ≤ r ∧ r ≤ 1153) ∨ (1162 ≤ r ∧ r ≤ 1215) ∨ (1232 ≤ r ∧ r ≤ 1327)) ∧ r % 2 = 0) ∨ (((313 ≤ r ∧ r ≤ 328) ∨ (377 ≤ r ∧ r ≤ 382)) ∧ r % 2 = 1)) := by
    rintro (⟨h | h | h | h | h, _⟩ | ⟨h | h, _⟩)
    · exact n256 h
    · exact n330 h
    · exact n1120 h
    · exact n1162 h
    · exact n1232 h
    · exact n313 h
    · exact n377 h
  rw [el r k1 k2 (by rw [if_neg n376, if_neg n383, if_neg n902, if_neg n908, if_neg n962, if_neg n904, if_neg n910, if_neg n1024, if_neg n1632])]
  exact ref_fnone w r n65 n192 n913 n1040 n256 n330 n1120 n1162 n1232 n313 n377 n376 n383 n902 n908 n962 n904 n910 n1024 n1632

end Go.Proofs.YthkpaelpnofbgaaGreatDoor
/-
  The reference of layer 6: stop words, and all words of a text. Over the program's own text.
-/
namespace Go.Proofs.YthkpaelpnofbgaaGreatDoor
open Go.RowKit

/-! ### Stop words -/
def stopS : List ByteArray := stopsL.map byteText
def stopCells : Array Value := (stopS.map Value.string).toArray
set_option maxRecDepth 100000 in
theorem stopS_length : stopS.length = 17 := rfl
set_option maxRecDepth 100000 in
theorem stopsL_byte : ∀ t ∈ stopsL, ∀ b ∈ t, b < 256 := by decide
set_option maxRecDepth 100000 in
theorem stop_mem (s : ByteArray) : s ∈ stopS ↔ stopB (bytesL s) = true := by
  unfold stopS stopB
  rw [List.contains_iff_mem, List.mem_map]
  constructor
  · rintro ⟨t, ht, rfl⟩
    rw [bytesL_byteText t (stopsL_byte t ht)]
    exact ht
  · intro h
    exact ⟨_, h, byteText_bytesL s⟩

set_option maxRecDepth 100000 in
set_option maxHeartbeats 1000000 in
theorem ref_stops (w : World) : Calls Tryz.prog 85 #[] w fun e w' => e = .returned (.slice (some ⟨w.heap.size, 0, none⟩) 17 17) ∧ w'.heap[w.heap.size]? = some (.cells stopCells 9 (0, 0)) ∧ Below w.heap.size w w' := by
  go_enter Tryz.func85, Tryz.ntmps85
  go_wp2_with fail
  go_ret
  exact ⟨rfl, heap_alloc_new w _, below_one⟩

set_option maxRecDepth 100000 in
theorem list_ne {x s : ByteArray} (h : ¬ x = s) : (x.toList == s.toList) = false := by
  rw [beq_eq_false_iff_ne]
  intro e
  apply h
  rw [ByteArray.toList_eq, ByteArray.toList_eq] at e
  exact ByteArray.ext (Array.toList_inj.1 e)

set_option maxRecDepth 100000 in
set_option maxHeartbeats 1000000 in
theorem ref_stop (w : World) (s : ByteArray) : Calls Tryz.prog 63 #[.string s] w fun e w' => e = .returned (.bool (stopB (bytesL s))) ∧ Below w.heap.size w w' := by
  go_enter Tryz.func63, Tryz.ntmps63
  go_wp2_with fail
  refine (ref_stops w).mono ?_
  rintro e w1 ⟨rfl, hh, hb⟩
  have hc : ∀ i x, stopS[i]? = some x → w1.cell? ⟨w.heap.size, i, none⟩ = some (.string x) := by
    intro i x hx
    rw [Lib.cell_of_heap hh i]
    unfold stopCells
    simp [hx]
  have HC := Lib.hid hc
  have HB := Lib.hid hb
  clear hh hb hc
  go_wp2_with fail
  go_loopw [8] (fun iv wr => ∃ i : Nat, i ≤ 17 ∧ iv = .int .i64 i ∧ wr = w1 ∧ ∀ j x, j < i → stopS[j]? = some x → x ≠ s) (fun iv _ => 17 - (intOf iv).toNat)
  case atStart => exact ⟨0, by omega, rfl, rfl, fun j x hj => by omega⟩
  case round =>
    obtain ⟨i, hi, rfl, rfl, hno⟩ := hrel
    have HN := Lib.hid hno
    clear hno
    by_cases hlt : i < 17
    · obtain ⟨x, hx⟩ : ∃ x, stopS[i]? = some x := ⟨_, List.getElem?_eq_getElem (by rw [stopS_length]; exact hlt)⟩
      have c0 := HC.out i x hx
      by_cases he : x = s
      · have HS := Lib.hid (show stopB (bytesL s) = true from (stop_mem s).1 (he ▸ List.mem_of_getElem? hx))
        subst he
        clear hx
        go_wp2_with fail
        go_ret
        exact ⟨by rw [HS.out]; rfl, HB.out⟩
      · have HX := Lib.hid hx
        have q := list_ne he
        clear hx
        go_wp2_with fail
        go_roundw
        case rel =>
          refine ⟨i + 1, by omega, by go_num, trivial, fun j y hj hy => ?_⟩
          by_cases hji : j < i
          · exact HN.out j y hji hy
          · obtain rfl : j = i := by omega
            rw [HX.out] at hy
            cases hy
            exact he
        case measure => simp [intOf]; omega
    · have HS := Lib.hid (show stopB (bytesL s) = false by
        have hm : ¬ s ∈ stopS := fun hm => by
          obtain ⟨j, hj⟩ := List.getElem?_of_mem hm
          exact HN.out j s (by have := (List.getElem?_eq_some_iff.1 hj).1; rw [stopS_length] at this; omega) hj rfl
        rw [stop_mem] at hm
        simpa using hm)
      go_wp2_with fail
      go_ret
      exact ⟨by rw [HS.out]; rfl, HB.out⟩

/-- The terms' words, of field 0, at their places. -/
def outT (o : List (List Nat)) : List Tk := o.zipIdx.map fun x => ((0 : Int), byteText x.1, (x.2 : Int))
set_option maxRecDepth 100000 in
theorem outT_snoc (o : List (List Nat)) (t : List Nat) : outT (o ++ [t]) = outT o ++ [((0 : Int), byteText t, (o.length : Int))] := by
  unfold outT
  rw [List.zipIdx_append]
  simp
set_option maxRecDepth 100000 in
theorem outT_length (o : List (List Nat)) : (outT o).length = o.length := by simp [outT]
end Go.Proofs.YthkpaelpnofbgaaGreatDoor
