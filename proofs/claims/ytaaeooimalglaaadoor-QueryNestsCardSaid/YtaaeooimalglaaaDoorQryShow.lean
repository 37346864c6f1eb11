/-
  A tree's text, which trees may be, and that a text that is shown is read as the tree. Without the program's text.
-/
import Derived.Test.YtaaeooimalglaaaDoorQryLike
import Derived.Test.YtaaeooimalglaaaDoorTokCut
namespace Go.Proofs.YtaaeooimalglaaaDoor

set_option maxRecDepth 100000 in
theorem Nd.induct {P : Nd → Prop} (h : ∀ k f ts ks, (∀ x ∈ ks, P x) → P (.mk k f ts ks)) : ∀ t, P t
  | .mk k f ts ks => h k f ts ks fun x _ => Nd.induct h x
termination_by t => SizeOf.sizeOf t
decreasing_by
  have := List.sizeOf_lt_of_mem (by assumption : x ∈ ks)
  simp; omega
def brk (p k : Int) : Bool := k == 3 || (k == 2 && p != 3)
def betw (k : Int) : List Nat := if k = 2 then [32, 38, 32] else if k = 3 then [32, 124, 32] else []
def interL : List (List Nat) → List Nat
  | [] => []
  | [a] => a
  | a :: b :: l => a ++ 32 :: interL (b :: l)
def padG (g : ByteArray → List Nat) : Nat → List Tk → List (List Nat)
  | _, [] => []
  | n, t :: ts => List.replicate (t.2.2.toNat - n) [97] ++ g t.2.1 :: padG g (max n t.2.2.toNat + 1) ts
def leafG (g : ByteArray → List Nat) (f : Int) (ts : List Tk) : List Nat :=
  (48 + f.toNat) :: 58 :: (match ts with
    | [t] => g t.2.1
    | ts => 34 :: interL (padG g 0 ts) ++ [34])
mutual
def showG (g : ByteArray → List Nat) : Nd → List Nat
  | .mk k f ts ks => if k = 1 then leafG g f ts else (if k = 4 then [33] else []) ++ showK g k true ks
def showK (g : ByteArray → List Nat) (k : Int) (first : Bool) : List Nd → List Nat
  | [] => []
  | x :: l => (if first then [] else betw k) ++ (if brk k x.kind then 40 :: (showG g x ++ [41]) else showG g x) ++ showK g k false l
end
def showB (t : Nd) : List Nat := showG bytesL t
def showR (t : Nd) : List Nat := showG runesOf t

def termOk (s : ByteArray) : Bool := match wordsT s with
  | [x] => x.1 == bytesL s
  | _ => false
def mayTs (f : Int) : Int → List Tk → Bool
  | _, [] => true
  | last, t :: ts => decide (last < t.2.2) && decide (t.2.2 ≤ 256) && t.1 == f && termOk t.2.1 && mayTs f t.2.2 ts
def mayLeafB (f : Int) (ts : List Tk) : Bool := (match ts with
  | [] => true
  | t :: _ => t.2.2 == 0) && mayTs f (-1) ts
mutual
def mayT (w : Nat) : Nd → Bool
  | .mk k f ts ks =>
    if k = 1 then ks.isEmpty && decide (0 ≤ f) && decide (f < 4) && mayLeafB f ts
    else ((k == 2 || k == 3) && decide (2 ≤ ks.length) || k == 4 && decide (ks.length = 1)) && f == 0 && ts.isEmpty && mayK k (if k = 4 then w + 1 else w) ks
def mayK (k : Int) (w : Nat) : List Nd → Bool
  | [] => true
  | x :: l => decide ((if brk k x.kind then w + 1 else w) ≤ 8) && mayT (if brk k x.kind then w + 1 else w) x && mayK k w l
end
set_option maxRecDepth 100000 in
theorem mayK_iff (k : Int) (w : Nat) : ∀ l : List Nd, mayK k w l = true ↔ ∀ x ∈ l, (if brk k x.kind then w + 1 else w) ≤ 8 ∧ mayT (if brk k x.kind then w + 1 else w) x = true
  | [] => by simp [mayK]
  | x :: l => by
    rw [mayK, Bool.and_eq_true, Bool.and_eq_true, decide_eq_true_eq, mayK_iff k w l]
    simp
set_option maxRecDepth 100000 in
theorem mayT_kind {w : Nat} {t : Nd} (h : mayT w t = true) : t.kind = 1 ∨ t.kind = 2 ∨ t.kind = 3 ∨ t.kind = 4 := by
  cases t with
  | mk k f ts ks =>
    rw [mayT] at h
    show k = 1 ∨ k = 2 ∨ k = 3 ∨ k = 4
    split at h
    · omega
    · simp at h
      omega
set_option maxRecDepth 100000 in
/-- Fewer brackets round it: it may be all the same. -/
theorem mayT_less : ∀ (t : Nd) (w v : Nat), v ≤ w → mayT w t = true → mayT v t = true := by
  refine Nd.induct fun k f ts ks ih w v hv h => ?_
  rw [mayT] at h ⊢
  split
  · rename_i hk; rw [if_pos hk] at h; exact h
  · rename_i hk
    rw [if_neg hk] at h
    rw [Bool.and_eq_true] at h ⊢
    refine ⟨h.1, ?_⟩
    rw [mayK_iff] at h ⊢
    intro x hx
    obtain ⟨h1, h2⟩ := h.2 x hx
    have hv2 : (if k = 4 then v + 1 else v) ≤ (if k = 4 then w + 1 else w) := by split <;> omega
    have hv3 : (if brk k x.kind = true then (if k = 4 then v + 1 else v) + 1 else (if k = 4 then v + 1 else v)) ≤ (if brk k x.kind = true then (if k = 4 then w + 1 else w) + 1 else (if k = 4 then w + 1 else w)) := by split <;> omega
    exact ⟨Nat.le_trans hv3 h1, ih x hx _ _ hv3 h2⟩

/-! ### A word that is its only word -/
set_option maxRecDepth 100000 in
theorem term_of_ok {s : ByteArray} (h : termOk s = true) : Term (bytesL s) ∧ stopB (bytesL s) = false ∧ allR (runesOf s) = [bytesL s] := by
  unfold termOk at h
  split at h
  · rename_i x hx
    have hx1 : x.1 = bytesL s := by simpa using h
    have hm : x ∈ placesF 0 (allT s) := by
      have : wordsT s = placesF 0 (allT s) := rfl
      rw [← this, hx]; simp
    obtain ⟨h1, h2, _⟩ := places_term _ _ _ hm
    rw [hx1] at h1 h2
    have ht := allT_term s _ h1
    have := allT_of_term ht
    rw [byteText_bytesL] at this
    exact ⟨ht, h2, this⟩
  · cases h
set_option maxRecDepth 100000 in
theorem letters_of {s : ByteArray} (h : termOk s = true) : runesOf s ≠ [] ∧ (∀ r ∈ runesOf s, okR r ∧ letB r = true) ∧ bytesL s = textL (runesOf s) := by
  obtain ⟨q, hq, he, hq2⟩ := (term_of_ok h).1.ex
  have hr : runesOf s = q := by
    have := runes_textZ (ints q)
    rw [norm_ints fun x hx => (hq2 x hx).1] at this
    have e : textZ (ints q) = s := by
      rw [textZ_ints fun x hx => (hq2 x hx).1, ← he, byteText_bytesL]
    rw [← e]; exact this
  rw [hr]
  exact ⟨hq, fun r hr => ⟨(hq2 r hr).1, by simpa [letB] using (hq2 r hr).2.1⟩, he⟩

/-! ### Reading on at what was shown -/
def StopW (T : List Nat) : Prop := T = [] ∨ (∃ r, T = 32 :: r) ∨ ∃ r, T = 41 :: r
/-- Behind it stands nothing that goes on with an 'and'. -/
def StopA (T : List Nat) : Prop := StopW T ∧ headZ (skipB T) ≠ 38 ∧ beginB (headZ (skipB T)) = false
def StopO (T : List Nat) : Prop := StopA T ∧ headZ (skipB T) ≠ 124
set_option maxRecDepth 100000 in
theorem stopW_let {T : List Nat} (h : StopW T) : ∀ c r, T = c :: r → letB c = false := by
  rintro c r rfl
  rcases h with h | ⟨r', h⟩ | ⟨r', h⟩
  · cases h
  · injection h with h _; subst h; decide +kernel
  · injection h with h _; subst h; decide +kernel
set_option maxRecDepth 100000 in
theorem takeW_stop {p : Nat → Bool} {q T : List Nat} (hq : ∀ c ∈ q, p c = true) (hT : ∀ c r, T = c :: r → p c = false) : (q ++ T).takeWhile p = q ∧ (q ++ T).dropWhile p = T := by
  induction q with
  | nil =>
    cases T with
    | nil => exact ⟨rfl, rfl⟩
    | cons c r =>
      have := hT c r rfl
      simp [this]
  | cons c q ih =>
    obtain ⟨h1, h2⟩ := ih fun x hx => hq x (by simp [hx])
    rw [List.cons_append, List.takeWhile_cons, List.dropWhile_cons, if_pos (hq c (by simp)), if_pos (hq c (by simp)), h1]
    exact ⟨rfl, h2⟩
set_option maxRecDepth 100000 in
theorem let_blank {c : Nat} (h : letB c = true) : blankB c = false := by
  cases hb : blankB c with
  | false => rfl
  | true => rw [(blank_let c hb).1] at h; cases h
set_option maxRecDepth 100000 in
theorem let_signs {c : Nat} (h : letB c = true) : c ≠ 33 ∧ c ≠ 34 ∧ c ≠ 35 ∧ c ≠ 38 ∧ c ≠ 40 ∧ c ≠ 41 ∧ c ≠ 58 ∧ c ≠ 64 ∧ c ≠ 124 ∧ c ≠ 32 := by
  refine ⟨?_, ?_, ?_, ?_, ?_, ?_, ?_, ?_, ?_, ?_⟩ <;> (rintro rfl; revert h; decide +kernel)
set_option maxRecDepth 100000 in
theorem skip_let {q T : List Nat} (hq : q ≠ []) (hl : ∀ c ∈ q, letB c = true) : skipB (q ++ T) = q ++ T := by
  cases q with
  | nil => exact absurd rfl hq
  | cons c q => rw [List.cons_append, skipB, let_blank (hl c (by simp))]; rfl
set_option maxRecDepth 100000 in
theorem word_at (k : Nat) {q T : List Nat} (hq : q ≠ []) (hl : ∀ c ∈ q, letB c = true) (hT : ∀ c r, T = c :: r → letB c = false) : wordP k (q ++ T) = .ok q T := by
  unfold wordP
  rw [skip_let hq hl]
  obtain ⟨h1, h2⟩ := takeW_stop hl hT
  rw [h1, h2, if_neg]
  cases q with
  | nil => exact absurd rfl hq
  | cons c q =>
    have := hl c (by simp)
    simpa [letB, headZ] using this
set_option maxRecDepth 100000 in
/-- The words that are laid with blanks between are these. -/
theorem allR_nil : allR [] = [] := by decide +kernel
set_option maxRecDepth 100000 in
theorem allR_inter : ∀ l : List (List Nat), allR (interL l) = (l.map allR).flatten
  | [] => allR_nil
  | [a] => by simp [interL]
  | a :: b :: l => by
    rw [interL, allR_blank, allR_inter (b :: l)]
    rfl
set_option maxRecDepth 100000 in
theorem allR_a : allR [97] = [[97]] := by decide +kernel
set_option maxRecDepth 100000 in
theorem stop_a : stopB [97] = true := by decide +kernel
set_option maxRecDepth 100000 in
theorem pad_words : ∀ (ts : List Tk) (n : Nat), (∀ t ∈ ts, termOk t.2.1 = true) → ((padG runesOf n ts).map allR).flatten = padG bytesL n ts
  | [], _, _ => rfl
  | t :: ts, n, h => by
    rw [padG, padG, List.map_append, List.flatten_append, List.map_cons, List.flatten_cons, (term_of_ok (h t (by simp))).2.2, pad_words ts _ fun x hx => h x (by simp [hx])]
    congr 1
    rw [List.map_replicate, allR_a]
    generalize t.2.2.toNat - n = m
    induction m with
    | zero => rfl
    | succ m ih => rw [List.replicate_succ, List.replicate_succ, List.flatten_cons, ih]; rfl
set_option maxRecDepth 100000 in
theorem places_pad (m n : Nat) (l : List (List Nat)) : placesF n (List.replicate m [97] ++ l) = placesF (n + m) l := by
  induction m generalizing n with
  | zero => rfl
  | succ m ih =>
    rw [List.replicate_succ, List.cons_append, placesF, stop_a, if_pos rfl, ih]
    congr 1
    omega
set_option maxRecDepth 100000 in
theorem places_of (f : Int) : ∀ (ts : List Tk) (n : Nat) (last : Int), last < (n : Int) → (n : Int) ≤ last + 1 → mayTs f last ts = true → placesF n (padG bytesL n ts) = ts.map fun t => (bytesL t.2.1, t.2.2.toNat)
  | [], _, _, _, _, _ => rfl
  | t :: ts, n, last, hn, hn2, h => by
    rw [mayTs] at h
    simp only [Bool.and_eq_true, decide_eq_true_eq] at h
    obtain ⟨⟨⟨⟨h1, h2⟩, h3⟩, h4⟩, h5⟩ := h
    rw [padG, places_pad, placesF, (term_of_ok h4).2.1]
    have e : n + (t.2.2.toNat - n) = t.2.2.toNat := by omega
    have e2 : max n t.2.2.toNat = t.2.2.toNat := by omega
    rw [e, e2, places_of f ts (t.2.2.toNat + 1) t.2.2 (by omega) (by omega) h5]
    rfl
set_option maxRecDepth 100000 in
theorem mayTs_all (f : Int) : ∀ (ts : List Tk) (last : Int), mayTs f last ts = true → ∀ t ∈ ts, t.1 = f ∧ last < t.2.2 ∧ t.2.2 ≤ 256 ∧ termOk t.2.1 = true
  | [], _, _, t, ht => by simp at ht
  | x :: ts, last, h, t, ht => by
    rw [mayTs] at h
    simp only [Bool.and_eq_true, decide_eq_true_eq] at h
    obtain ⟨⟨⟨⟨h1, h2⟩, h3⟩, h4⟩, h5⟩ := h
    rcases List.mem_cons.1 ht with rfl | ht
    · exact ⟨by simpa using h3, h1, h2, h4⟩
    · obtain ⟨g1, g2, g3, g4⟩ := mayTs_all f ts _ h5 t ht
      exact ⟨g1, by omega, g3, g4⟩
set_option maxRecDepth 100000 in
/-- The leaf that is made of a leaf's words is that leaf. -/
theorem leaf_back (f : Int) (ts : List Tk) (h : mayLeafB f ts = true) (q : List Nat) (hq : allR q = padG bytesL 0 ts) : leafNd f q = .mk 1 f ts [] := by
  unfold mayLeafB at h
  rw [Bool.and_eq_true] at h
  obtain ⟨h1, h2⟩ := h
  have hp := places_of f ts 0 (-1) (by omega) (by omega) h2
  have ha := mayTs_all f ts (-1) h2
  unfold leafNd wordsR
  rw [hq, hp]
  have hf : firstP (ts.map fun t => (bytesL t.2.1, t.2.2.toNat)) = 0 := by
    cases ts with
    | nil => rfl
    | cons t ts => simp at h1; simp [firstP, h1]
  unfold leafW
  rw [hf, List.map_map]
  congr 1
  rw [List.map_congr_left (g := id), List.map_id]
  intro t ht
  obtain ⟨g1, g2, g3, g4⟩ := ha t ht
  obtain ⟨a, b, c⟩ := t
  simp only [Function.comp, id, byteText_bytesL] at g1 g2 ⊢
  refine Prod.ext g1.symm (Prod.ext rfl ?_)
  simp only
  omega
set_option maxRecDepth 100000 in
/-- A word's runes are no sign. -/
theorem pad_no (ts : List Tk) : ∀ n : Nat, (∀ t ∈ ts, termOk t.2.1 = true) → ∀ q ∈ padG runesOf n ts, ∀ c ∈ q, letB c = true := by
  induction ts with
  | nil => intro n _ q hq; simp [padG] at hq
  | cons t ts ih =>
    intro n h q hq c hc
    rw [padG] at hq
    rcases List.mem_append.1 hq with hq | hq
    · have := List.eq_of_mem_replicate hq
      subst this
      simp at hc; subst hc; decide +kernel
    · rcases List.mem_cons.1 hq with rfl | hq
      · exact ((letters_of (h t (by simp))).2.1 c hc).2
      · exact ih _ (fun x hx => h x (by simp [hx])) q hq c hc
set_option maxRecDepth 100000 in
theorem inter_no : ∀ l : List (List Nat), (∀ q ∈ l, ∀ c ∈ q, letB c = true) → 34 ∉ interL l
  | [], _ => by simp [interL]
  | [a], h => by
    intro h34
    exact (let_signs (h a (by simp) 34 h34)).2.1 rfl
  | a :: b :: l, h => by
    have ih := inter_no (b :: l) fun q hq => h q (by simp at hq ⊢; exact .inr hq)
    intro h34
    rw [interL] at h34
    rcases List.mem_append.1 h34 with h34 | h34
    · exact (let_signs (h a (by simp) 34 h34)).2.1 rfl
    · rcases List.mem_cons.1 h34 with h34 | h34
      · cases h34
      · exact ih h34
set_option maxRecDepth 100000 in
theorem takeW_until : ∀ (q T : List Nat), 34 ∉ q → (q ++ 34 :: T).takeWhile (· != 34) = q ∧ ((q ++ 34 :: T).dropWhile (· != 34)).drop 1 = T
  | [], T, _ => by simp
  | c :: q, T, h => by
    obtain ⟨h1, h2⟩ := takeW_until q T fun e => h (by simp [e])
    have hc : (c != 34) = true := bne_iff_ne.2 fun e => h (by simp [e])
    rw [List.cons_append, List.takeWhile_cons, List.dropWhile_cons, if_pos hc, if_pos hc, h1]
    exact ⟨rfl, h2⟩
set_option maxRecDepth 100000 in
theorem skip_field {c : Nat} (h : 48 ≤ c) (hc : c < 52) (l : List Nat) : skipB (c :: l) = c :: l := by
  have : blankB c = false := by unfold blankB; simp; omega
  rw [skipB, this]; rfl
set_option maxRecDepth 100000 in
theorem back_leaf (k : Nat) (f : Int) (hf0 : 0 ≤ f) (hf : f < 4) (ts : List Tk) (h : mayLeafB f ts = true) {T : List Nat} (hT : StopW T) : leafP k (leafG runesOf f ts ++ T) = .ok (.mk 1 f ts []) T := by
  have h2 : mayTs f (-1) ts = true := by unfold mayLeafB at h; rw [Bool.and_eq_true] at h; exact h.2
  have ha := mayTs_all f ts (-1) h2
  have hok : ∀ t ∈ ts, termOk t.2.1 = true := fun t ht => (ha t ht).2.2.2
  have hfl : ∀ l : List Nat, fieldP ((48 + f.toNat) :: 58 :: l) = (f, l) := fun l => by
    unfold fieldP
    rw [skip_field (by omega) (by omega)]
    simp only
    rw [if_pos ⟨by omega, by omega⟩]
    refine Prod.ext ?_ rfl
    simp only
    omega
  have ph : ∀ ts : List Tk, (∀ t ∈ ts, termOk t.2.1 = true) → mayLeafB f ts = true → leafP k ((48 + f.toNat) :: 58 :: (34 :: interL (padG runesOf 0 ts) ++ [34]) ++ T) = .ok (.mk 1 f ts []) T := fun ts hok h => by
    have hno := inter_no _ (pad_no ts 0 hok)
    unfold leafP
    rw [show (48 + f.toNat) :: 58 :: (34 :: interL (padG runesOf 0 ts) ++ [34]) ++ T = (48 + f.toNat) :: 58 :: (34 :: (interL (padG runesOf 0 ts) ++ 34 :: T)) by simp, hfl]
    simp only
    rw [show skipB (34 :: (interL (padG runesOf 0 ts) ++ 34 :: T)) = 34 :: (interL (padG runesOf 0 ts) ++ 34 :: T) from rfl, if_pos (show headZ (34 :: (interL (padG runesOf 0 ts) ++ 34 :: T)) = 34 from rfl), List.drop_succ_cons, List.drop_zero]
    obtain ⟨h3, h4⟩ := takeW_until _ T hno
    unfold phraseP
    rw [if_pos (by simp), h3, h4]
    show PR.ok _ _ = _
    rw [leaf_back f ts h _ (by rw [allR_inter, pad_words ts 0 hok])]
  unfold leafG
  match ts, h, hok, ph with
  | [], h, hok, ph => exact ph [] hok h
  | [t], h, hok, ph =>
    obtain ⟨hq, hl, _⟩ := letters_of (hok t (by simp))
    have hll : ∀ c ∈ runesOf t.2.1, letB c = true := fun c hc => (hl c hc).2
    unfold leafP
    rw [show (48 + f.toNat) :: 58 :: runesOf t.2.1 ++ T = (48 + f.toNat) :: 58 :: (runesOf t.2.1 ++ T) from rfl, hfl]
    simp only
    rw [skip_let hq hll, if_neg, word_at k hq hll (stopW_let hT)]
    · show PR.ok _ _ = _
      rw [leaf_back f [t] h _ ?_]
      have h0 : t.2.2 = 0 := by unfold mayLeafB at h; simp at h; exact h.1
      rw [(term_of_ok (hok t (by simp))).2.2, padG, h0]
      rfl
    · cases hr : runesOf t.2.1 with
      | nil => exact absurd hr hq
      | cons c r =>
        have := (let_signs (hll c (by rw [hr]; simp))).2.1
        simp only [List.cons_append, headZ]
        omega
  | a :: b :: ts, h, hok, ph => exact ph (a :: b :: ts) hok h
end Go.Proofs.YtaaeooimalglaaaDoor
