/-
  Phrases, without the program's text: in which documents terms stand as they should, and how often.
-/
import Derived.Test.YtaaeooimalglaaaBlkPure
import Derived.Test.YtaaeooimalglaaaNodeRd
import Derived.Test.YtaaeooimalglaaaFounds
namespace Go.Proofs.Ytaaeooimalglaaa

/-- The places of a document in a list. -/
def placesN : List En → Int → List Int
  | [], _ => []
  | e :: l, d => if e.1 = d then e.2 else placesN l d
/-- Do all terms stand as they should, where the first one stands at a place? -/
def standB (t0 q : Int) : List Tk → List (List Int) → Bool
  | t :: T, P :: Ps => decide (q - t0 + t.2.2 ∈ P) && standB t0 q T Ps
  | _, _ => true
def firstT (T : List Tk) : Int := (T.headD (0, ByteArray.empty, 0)).2.2
def timesP (T : List Tk) (Ps : List (List Int)) : Nat := (Ps.headD []).countP fun q => standB (firstT T) q T Ps
def timesN (T : List Tk) (L : List (List En)) (d : Int) : Nat := timesP T (L.map (placesN · d))
def beyondT (t : Tk) : Prop := t.2.2 < 0 ∨ 65535 < t.2.2
instance (t : Tk) : Decidable (beyondT t) := by unfold beyondT; exact inferInstance
def badT (T : List Tk) (L : List (List En)) : Prop := T = [] ∨ T.length ≠ L.length ∨ ∃ t ∈ T, beyondT t
def oneF (T : List Tk) (L : List (List En)) (e : En) : List Fo := if 0 < timesN T L e.1 then [(e.1, (timesN T L e.1 : Int))] else []
def phraseF (T : List Tk) (L : List (List En)) (l : List En) : List Fo := l.flatMap (oneF T L)
open Classical in
noncomputable def phraseN (T : List Tk) (L : List (List En)) : List Fo := if badT T L then [] else phraseF T L (L.headD [])
theorem phrase_bad {T : List Tk} {L : List (List En)} (h : badT T L) : phraseN T L = [] := by unfold phraseN; rw [if_pos h]
theorem phrase_good {T : List Tk} {L : List (List En)} (h : ¬ badT T L) : phraseN T L = phraseF T L (L.headD []) := by unfold phraseN; rw [if_neg h]
theorem phraseF_snoc (T : List Tk) (L : List (List En)) (l : List En) (e : En) : phraseF T L (l ++ [e]) = phraseF T L l ++ oneF T L e := by unfold phraseF; rw [List.flatMap_append]; simp
theorem phraseF_take {T : List Tk} {L : List (List En)} {l : List En} {k : Nat} {e : En} (h : l[k]? = some e) : phraseF T L (l.take (k + 1)) = phraseF T L (l.take k) ++ oneF T L e := by
  rw [← phraseF_snoc, List.take_add_one, h]; rfl
/-! ### Terms, one behind the other -/
/-- The first ones stand. -/
def standTo (t0 q : Int) (T : List Tk) (Ps : List (List Int)) (i : Nat) : Prop := ∀ k, k < i → ∀ t P, T[k]? = some t → Ps[k]? = some P → q - t0 + t.2.2 ∈ P
theorem stand_iff (t0 q : Int) : ∀ (T : List Tk) (Ps : List (List Int)), standB t0 q T Ps = true ↔ standTo t0 q T Ps T.length
  | [], Ps => by simp [standB, standTo]
  | t :: T, [] => by simp [standB, standTo]
  | t :: T, P :: Ps => by
    rw [standB, Bool.and_eq_true, stand_iff t0 q T Ps, decide_eq_true_eq]
    constructor
    · rintro ⟨h1, h2⟩ k hk t' P' ht hP
      cases k with
      | zero => simp at ht hP; subst ht hP; exact h1
      | succ k => exact h2 k (by simpa using hk) t' P' (by simpa using ht) (by simpa using hP)
    · intro h
      refine ⟨h 0 (by simp) t P rfl rfl, fun k hk t' P' ht hP => h (k + 1) (by simpa using hk) t' P' (by simpa using ht) (by simpa using hP)⟩
theorem standTo_zero (t0 q : Int) (T : List Tk) (Ps : List (List Int)) : standTo t0 q T Ps 0 := fun k hk => absurd hk (by omega)
theorem standTo_succ {t0 q : Int} {T : List Tk} {Ps : List (List Int)} {i : Nat} {t : Tk} {P : List Int} (h : standTo t0 q T Ps i) (ht : T[i]? = some t) (hP : Ps[i]? = some P) (hm : q - t0 + t.2.2 ∈ P) : standTo t0 q T Ps (i + 1) := by
  intro k hk t' P' h1 h2
  by_cases e : k = i
  · subst e
    rw [ht] at h1; rw [hP] at h2
    injection h1 with h1; injection h2 with h2
    subst h1 h2
    exact hm
  · exact h k (by omega) t' P' h1 h2
theorem stand_no {t0 q : Int} {T : List Tk} {Ps : List (List Int)} {i : Nat} {t : Tk} {P : List Int} (ht : T[i]? = some t) (hP : Ps[i]? = some P) (hm : q - t0 + t.2.2 ∉ P) : standB t0 q T Ps = false := by
  rw [Bool.eq_false_iff]
  intro h
  exact hm ((stand_iff t0 q T Ps).1 h i (List.getElem?_eq_some_iff.1 ht).1 t P ht hP)
theorem stand_yes {t0 q : Int} {T : List Tk} {Ps : List (List Int)} (h : standTo t0 q T Ps T.length) : standB t0 q T Ps = true := (stand_iff t0 q T Ps).2 h
theorem count_take {P : List Int} {i : Nat} {q : Int} (f : Int → Bool) (h : P[i]? = some q) : (P.take (i + 1)).countP f = (P.take i).countP f + if f q then 1 else 0 := by
  rw [List.take_add_one, h, List.countP_append]
  simp [List.countP_cons]
/-- Where a list hasn't the document, the phrase isn't there. -/
theorem times_none {T : List Tk} {Ps : List (List Int)} {i : Nat} (hl : T.length = Ps.length) (h : Ps[i]? = some []) : timesP T Ps = 0 := by
  unfold timesP
  rw [List.countP_eq_zero]
  intro q _
  have hi := (List.getElem?_eq_some_iff.1 h).1
  rw [stand_no (i := i) (t := T[i]'(by omega)) (List.getElem?_eq_getElem _) h (by simp)]
  simp
/-! ### Lists that rise -/
def RiseD (l : List En) : Prop := l.Pairwise fun a b => a.1 < b.1
def RiseP (l : List Int) : Prop := l.Pairwise fun a b => a < b
theorem rise_of_get {l : List Int} (h : ∀ k, k < l.length → 0 < k → l.getD (k - 1) 0 < l.getD k 0) : RiseP l := by
  have step : ∀ (m i : Nat), i + m + 1 < l.length → l.getD i 0 < l.getD (i + m + 1) 0 := by
    intro m
    induction m with
    | zero => intro i hi; exact h (i + 1) hi (by omega)
    | succ m ih =>
      intro i hi
      have h1 := ih i (by omega)
      have h2 := h (i + m + 1 + 1) hi (by omega)
      rw [Nat.add_sub_cancel] at h2
      exact Int.lt_trans h1 h2
  unfold RiseP
  rw [List.pairwise_iff_getElem]
  intro i j hi hj hij
  have := step (j - i - 1) i (by omega)
  rw [show i + (j - i - 1) + 1 = j by omega] at this
  simpa [List.getD_eq_getElem?_getD, List.getElem?_eq_getElem hi, List.getElem?_eq_getElem hj] using this
theorem may_rise {l : List En} (h : MayE l) : RiseD l := by
  have : RiseP (l.map (·.1)) := rise_of_get fun k hk h0 => (h.2 k (by simpa using hk)).1.2.2 h0
  unfold RiseP at this
  rw [List.pairwise_map] at this
  exact this
theorem up_rise {l : List Int} (h : UpP l) : RiseP l := rise_of_get fun k hk h0 => (h k hk).2.2 h0
theorem may_mem {l : List En} (h : MayE l) {e : En} (he : e ∈ l) : 0 ≤ e.1 ∧ e.1 ≤ 65535 ∧ 1 ≤ e.2.length ∧ e.2.length ≤ 256 ∧ UpP e.2 := by
  obtain ⟨i, hi, rfl⟩ := List.getElem_of_mem he
  have h1 := may_doc h hi
  have h2 := h.2 i hi
  rw [enAt_some (List.getElem?_eq_getElem hi)] at h1
  unfold okE at h2
  rw [enAt_some (List.getElem?_eq_getElem hi)] at h2
  exact ⟨h1.1, h1.2, h2.2.1, h2.2.2.1, h2.2.2.2⟩
theorem places_mem {l : List En} (h : RiseD l) {e : En} (he : e ∈ l) : placesN l e.1 = e.2 := by
  induction l with
  | nil => cases he
  | cons x l ih =>
    unfold RiseD at h
    rw [List.pairwise_cons] at h
    rw [placesN]
    rcases List.mem_cons.1 he with rfl | h1
    · rw [if_pos rfl]
    · have := h.1 e h1
      rw [if_neg (by omega)]
      exact ih h.2 h1
theorem places_none {l : List En} {d : Int} (h : ∀ e ∈ l, e.1 ≠ d) : placesN l d = [] := by
  induction l with
  | nil => rfl
  | cons x l ih =>
    rw [placesN, if_neg (h x (by simp))]
    exact ih fun e he => h e (by simp [he])
theorem places_or (l : List En) (d : Int) : placesN l d = [] ∨ ∃ e ∈ l, e.1 = d ∧ placesN l d = e.2 := by
  induction l with
  | nil => exact .inl rfl
  | cons x l ih =>
    rw [placesN]
    split
    · exact .inr ⟨x, by simp, by assumption, rfl⟩
    · rcases ih with h | ⟨e, h1, h2⟩
      · exact .inl h
      · exact .inr ⟨e, by simp [h1], h2⟩
theorem places_take {l : List En} (h : RiseD l) {i : Nat} {e : En} (he : l[i]? = some e) (d : Int) : placesN (l.take (i + 1)) d = if e.1 = d then e.2 else placesN (l.take i) d := by
  induction l generalizing i with
  | nil => simp at he
  | cons x l ih =>
    unfold RiseD at h
    rw [List.pairwise_cons] at h
    cases i with
    | zero =>
      simp at he
      subst he
      simp [placesN]
    | succ i =>
      have he' : l[i]? = some e := by simpa using he
      rw [List.take_succ_cons, List.take_succ_cons, placesN, placesN, ih h.2 he']
      have := h.1 e (List.mem_of_getElem? he')
      by_cases hx : x.1 = d
      · rw [if_pos hx, if_pos hx, if_neg (by omega)]
      · rw [if_neg hx, if_neg hx]
/-- What is left of a list ahead of a document. -/
def Behind (l : List En) (d : Int) (r : List En) : Prop := ∃ pre, l = pre ++ r ∧ ∀ e ∈ pre, e.1 < d
def dropE (l : List En) (d : Int) : List En := l.dropWhile fun e => decide (e.1 < d)
theorem Behind.refl (l : List En) (d : Int) : Behind l d l := ⟨[], rfl, by simp⟩
theorem Behind.mono {l r : List En} {d d' : Int} (h : Behind l d r) (hd : d ≤ d') : Behind l d' r := by
  obtain ⟨pre, h1, h2⟩ := h
  exact ⟨pre, h1, fun e he => by have := h2 e he; omega⟩
theorem Behind.drop {l r : List En} {d : Int} (h : Behind l d r) : Behind l d (dropE r d) := by
  obtain ⟨pre, rfl, h2⟩ := h
  refine ⟨pre ++ r.takeWhile fun e => decide (e.1 < d), ?_, ?_⟩
  · unfold dropE
    rw [List.append_assoc, List.takeWhile_append_dropWhile]
  · intro e he
    rcases List.mem_append.1 he with h3 | h3
    · exact h2 e h3
    · simpa using List.mem_takeWhile h3
where
  List.mem_takeWhile {p : En → Bool} {l : List En} {e : En} (h : e ∈ l.takeWhile p) : p e = true := by
    induction l with
    | nil => simp at h
    | cons x l ih =>
      rw [List.takeWhile_cons] at h
      split at h
      · rcases List.mem_cons.1 h with rfl | h1
        · assumption
        · exact ih h1
      · simp at h
theorem dropE_head {r : List En} {d : Int} {e : En} {l : List En} (h : dropE r d = e :: l) : d ≤ e.1 := by
  induction r with
  | nil => simp [dropE] at h
  | cons x r ih =>
    unfold dropE at h
    rw [List.dropWhile_cons] at h
    split at h
    · exact ih h
    · injection h with h1 h2
      subst h1
      rename_i h3
      simpa using h3
theorem places_app {pre r : List En} {d : Int} (h : ∀ e ∈ pre, e.1 < d) : placesN (pre ++ r) d = placesN r d := by
  induction pre with
  | nil => rfl
  | cons x pre ih =>
    have := h x (by simp)
    rw [List.cons_append, placesN, if_neg (by omega)]
    exact ih fun e he => h e (by simp [he])
/-- What the list that is left tells of the document. -/
theorem Behind.places {l r : List En} {d : Int} (hr : RiseD l) (h : Behind l d r) : placesN l d = match dropE r d with
    | [] => []
    | e :: _ => if e.1 = d then e.2 else [] := by
  obtain ⟨pre, hl, hp⟩ := h.drop
  rw [hl, places_app hp]
  cases hd : dropE r d with
  | nil => rfl
  | cons e m =>
    have h1 := dropE_head hd
    rw [hd] at hl
    rw [hl] at hr
    have h2 := ((List.pairwise_append.1 hr).2.1)
    rw [List.pairwise_cons] at h2
    rw [placesN]
    show _ = if e.1 = d then e.2 else []
    by_cases he : e.1 = d
    · rw [if_pos he, if_pos he]
    · rw [if_neg he, if_neg he]
      exact places_none fun x hx => by have := h2.1 x hx; omega
/-! ### Counting -/
theorem len_le_of_sub : ∀ (A B : List Int), A.Nodup → (∀ a ∈ A, a ∈ B) → A.length ≤ B.length
  | [], B, _, _ => Nat.zero_le _
  | a :: A, B, hn, hs => by
    rw [List.nodup_cons] at hn
    have ha := hs a (by simp)
    have := len_le_of_sub A (B.erase a) hn.2 fun x hx => by
      refine (List.mem_erase_of_ne ?_).2 (hs x (by simp [hx]))
      rintro rfl
      exact hn.1 hx
    rw [List.length_erase_of_mem ha] at this
    have := List.length_pos_of_mem ha
    rw [List.length_cons]
    omega
theorem rise_nodup {l : List Int} (h : RiseP l) : l.Nodup := h.imp fun h => by omega
/-- No phrase is found more often than a term of it has places. -/
theorem times_le {T : List Tk} {Ps : List (List Int)} (hl : T.length = Ps.length) (h0 : ∀ P ∈ Ps, RiseP P) {P : List Int} (hP : P ∈ Ps) : timesP T Ps ≤ P.length := by
  obtain ⟨i, hi, rfl⟩ := List.getElem_of_mem hP
  have ht := List.getElem?_eq_getElem (show i < T.length by omega)
  unfold timesP
  rw [List.countP_eq_length_filter]
  have hrise : RiseP (Ps.headD []) := by
    cases Ps with
    | nil => exact List.Pairwise.nil
    | cons P Ps => exact h0 P (by simp)
  rw [← List.length_map (f := fun q => q - firstT T + (T[i]'(by omega)).2.2)]
  refine len_le_of_sub _ _ ?_ ?_
  · refine rise_nodup ?_
    unfold RiseP
    rw [List.pairwise_map]
    exact (List.Pairwise.filter _ hrise).imp fun h => by omega
  · intro a ha
    obtain ⟨q, hq, rfl⟩ := List.mem_map.1 ha
    have hq2 := (List.mem_filter.1 hq).2
    exact (stand_iff _ _ _ _).1 hq2 i (by omega) _ _ ht (List.getElem?_eq_getElem hi)
theorem mem_phrase {T : List Tk} {L : List (List En)} {l : List En} {f : Fo} : f ∈ phraseF T L l ↔ ∃ e ∈ l, 0 < timesN T L e.1 ∧ f = (e.1, (timesN T L e.1 : Int)) := by
  unfold phraseF
  rw [List.mem_flatMap]
  constructor
  · rintro ⟨e, he, h⟩
    unfold oneF at h
    split at h
    · exact ⟨e, he, by assumption, by simpa using h⟩
    · simp at h
  · rintro ⟨e, he, h, rfl⟩
    exact ⟨e, he, by unfold oneF; rw [if_pos h]; simp⟩
theorem phrase_rise {T : List Tk} {L : List (List En)} : ∀ {l : List En}, RiseD l → (phraseF T L l).Pairwise fun a b => a.1 < b.1
  | [], _ => List.Pairwise.nil
  | e :: l, h => by
    unfold RiseD at h
    rw [List.pairwise_cons] at h
    have e1 : phraseF T L (e :: l) = oneF T L e ++ phraseF T L l := rfl
    rw [e1, List.pairwise_append]
    refine ⟨?_, phrase_rise h.2, fun a ha b hb => ?_⟩
    · unfold oneF; split <;> simp
    · obtain ⟨x, hx, _, rfl⟩ := mem_phrase.1 hb
      unfold oneF at ha
      split at ha
      · simp at ha; subst ha; exact h.1 x hx
      · simp at ha
/-- One term. -/
theorem phrase_one {t : Tk} {l : List En} (h : MayE l) : phraseF [t] [l] l = l.map fun e => (e.1, (e.2.length : Int)) := by
  have hr := may_rise h
  have key : ∀ e ∈ l, timesN [t] [l] e.1 = e.2.length := by
    intro e he
    show timesP [t] [placesN l e.1] = _
    rw [places_mem hr he]
    show List.countP _ e.2 = _
    rw [List.countP_eq_length]
    intro q hq
    show (decide (q - t.2.2 + t.2.2 ∈ e.2) && true) = true
    rw [Int.sub_add_cancel]
    simpa using hq
  have : ∀ m : List En, (∀ e ∈ m, e ∈ l) → phraseF [t] [l] m = m.map fun e => (e.1, (e.2.length : Int)) := by
    intro m
    induction m with
    | nil => intro _; rfl
    | cons e m ih =>
      intro hm
      have h1 := key e (hm e (by simp))
      have h2 := (may_mem h (hm e (by simp))).2.2.1
      show oneF [t] [l] e ++ phraseF [t] [l] m = _
      rw [ih fun x hx => hm x (by simp [hx])]
      unfold oneF
      rw [h1, if_pos (by omega)]
      rfl
  exact this l fun e he => he
/-- A longer one is found no more often. -/
theorem times_prefix {T : List Tk} {Ps : List (List Int)} {n : Nat} (hn : 0 < n) (hT : n ≤ T.length) (hl : T.length = Ps.length) : timesP T Ps ≤ timesP (T.take n) (Ps.take n) := by
  unfold timesP
  have e1 : (Ps.take n).headD [] = Ps.headD [] := by cases Ps with | nil => simp | cons P Ps => cases n with | zero => omega | succ n => rfl
  have e2 : firstT (T.take n) = firstT T := by unfold firstT; cases T with | nil => simp | cons P Ps => cases n with | zero => omega | succ n => rfl
  rw [e1, e2]
  refine List.countP_mono_left fun q _ h => ?_
  have h2 := (stand_iff _ _ _ _).1 h
  refine (stand_iff _ _ _ _).2 fun k hk t P ht hP => ?_
  rw [List.length_take] at hk
  rw [List.getElem?_take_of_lt (by omega)] at ht hP
  exact h2 k (by omega) t P ht hP
theorem phrase_prefix {T : List Tk} {L : List (List En)} {n : Nat} (hn : 0 < n) (hT : n ≤ T.length) (hl : T.length = L.length) {l : List En} {f : Fo} (h : f ∈ phraseF T L l) : ∃ g ∈ phraseF (T.take n) (L.take n) l, g.1 = f.1 ∧ f.2 ≤ g.2 := by
  obtain ⟨e, he, h0, rfl⟩ := mem_phrase.1 h
  have : timesN T L e.1 ≤ timesN (T.take n) (L.take n) e.1 := by
    unfold timesN
    rw [List.map_take]
    exact times_prefix hn hT (by rw [List.length_map]; exact hl)
  exact ⟨_, mem_phrase.2 ⟨e, he, by omega, rfl⟩, rfl, by show ((_ : Nat) : Int) ≤ _; omega⟩
end Go.Proofs.Ytaaeooimalglaaa
