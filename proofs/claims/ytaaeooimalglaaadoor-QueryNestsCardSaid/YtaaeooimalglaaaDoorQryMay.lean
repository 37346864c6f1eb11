/-
  What is read may be; a word in brackets, behind signs that turn it. Without the program's text.
-/
import Derived.Test.YtaaeooimalglaaaDoorQryBack
namespace Go.Proofs.YtaaeooimalglaaaDoor

structure Fit (l : List Nat) : Prop where
  few : l.length ≤ 256
  ok : ∀ r ∈ l, okR r
set_option maxRecDepth 100000 in
theorem Fit.suffix {l m : List Nat} (h : Fit l) (hs : m <:+ l) : Fit m := ⟨Nat.le_trans hs.length_le h.few, fun r hr => h.ok r (hs.subset hr)⟩
set_option maxRecDepth 100000 in
theorem word_parts {k : Nat} {l q l' : List Nat} (h : wordP k l = .ok q l') : l' <:+ l ∧ ∀ c ∈ q, c ∈ l ∧ letB c = true := by
  unfold wordP at h
  split at h
  · cases h
  · injection h with h1 h2
    subst h1 h2
    refine ⟨(List.dropWhile_suffix _).trans (skip_suffix l), fun c hc => ⟨(skip_suffix l).subset (List.takeWhile_subset _ hc), ?_⟩⟩
    have : ∀ s : List Nat, ∀ c ∈ s.takeWhile letB, letB c = true := by
      intro s
      induction s with
      | nil => intro c hc; simp at hc
      | cons a s ih =>
        intro c hc
        rw [List.takeWhile_cons] at hc
        split at hc
        · rcases List.mem_cons.1 hc with rfl | hc
          · assumption
          · exact ih c hc
        · simp at hc
    exact this _ c hc
set_option maxRecDepth 100000 in
theorem word_len {k : Nat} {l q l' : List Nat} (h : wordP k l = .ok q l') : q.length ≤ l.length := by
  unfold wordP at h
  split at h
  · cases h
  · injection h with h1 h2
    subst h1
    have := (List.takeWhile_prefix letB (l := skipB l)).length_le
    have := skipB_le l
    omega
set_option maxRecDepth 100000 in
theorem phrase_parts {l q l' : List Nat} (h : phraseP l = .ok q l') : l' <:+ l ∧ (∀ c ∈ q, c ∈ l) ∧ q.length ≤ l.length := by
  unfold phraseP at h
  split at h
  · injection h with h1 h2
    subst h1 h2
    exact ⟨(List.drop_suffix _ _).trans (List.dropWhile_suffix _), fun c hc => List.takeWhile_subset _ hc, (List.takeWhile_prefix _).length_le⟩
  · cases h
set_option maxRecDepth 100000 in
theorem field_parts (l : List Nat) : (fieldP l).2 <:+ l ∧ 0 ≤ (fieldP l).1 ∧ (fieldP l).1 < 4 := by
  have h := skip_suffix l
  unfold fieldP
  split
  · rename_i c r hs
    rw [hs] at h
    split
    · refine ⟨(List.suffix_cons 58 r).trans ((List.suffix_cons c _).trans h), ?_, ?_⟩
      · simp only; omega
      · simp only; omega
    · exact ⟨h, by simp, by simp⟩
  · exact ⟨h, by simp, by simp⟩
set_option maxRecDepth 100000 in
theorem leaf_parts {k : Nat} {l l' : List Nat} {t : Nd} (h : leafP k l = .ok t l') : l' <:+ l ∧ ∃ f q, t = leafNd f q ∧ 0 ≤ f ∧ f < 4 ∧ (∀ c ∈ q, c ∈ l) ∧ q.length ≤ l.length := by
  obtain ⟨h1, h2, h3⟩ := field_parts l
  unfold leafP at h
  split at h
  · obtain ⟨q, e, rfl⟩ := map_ok h
    obtain ⟨g1, g2, g3⟩ := phrase_parts e
    have hd : (skipB (fieldP l).2).drop 1 <:+ l := (List.drop_suffix _ _).trans ((skip_suffix _).trans h1)
    exact ⟨g1.trans hd, _, q, rfl, h2, h3, fun c hc => hd.subset (g2 c hc), Nat.le_trans g3 hd.length_le⟩
  · obtain ⟨q, e, rfl⟩ := map_ok h
    obtain ⟨g1, g2⟩ := word_parts e
    exact ⟨g1.trans h1, _, q, rfl, h2, h3, fun c hc => h1.subset (g2 c hc).1, Nat.le_trans (word_len e) h1.length_le⟩
set_option maxRecDepth 100000 in
theorem limit_parts {l l' : List Nat} {n : Int} (h : limitP l = .ok n l') : l' <:+ l ∧ 0 ≤ n ∧ n ≤ 64 := by
  obtain ⟨q, l1, h1, h2⟩ := bind_ok h
  have h3 := (word_parts h1).1
  split at h2
  · cases h2
  · rename_i hn
    injection h2 with h4 h5
    subst h4 h5
    refine ⟨h3, ?_⟩
    unfold limZ at hn ⊢
    split at hn
    · split at hn
      · omega
      · simp at hn
    · split at hn
      · omega
      · simp at hn
    · simp at hn
set_option maxRecDepth 100000 in
theorem order_parts {l l' : List Nat} {n : Int} (h : orderP l = .ok n l') : l' <:+ l ∧ (n = 0 ∨ n = 1) := by
  obtain ⟨q, l1, h1, h2⟩ := bind_ok h
  have h3 := (word_parts h1).1
  split at h2
  · injection h2 with h4 h5; subst h4 h5; exact ⟨h3, .inr rfl⟩
  · split at h2
    · injection h2 with h4 h5; subst h4 h5; exact ⟨h3, .inl rfl⟩
    · cases h2
set_option maxRecDepth 100000 in
theorem same_self {α : Type} {P : List Nat → Prop} (x : PR α) (h : ∀ a l, x = .ok a l → P l) : Same2 (fun l m => l = m ∧ P l) x x := by
  cases x with
  | ok a l => exact ⟨rfl, rfl, h a l rfl⟩
  | err e => exact rfl
set_option maxRecDepth 100000 in
theorem like_fit : Like (fun l m => l = m ∧ Fit l) where
  skip := fun ⟨h, h2⟩ => ⟨by rw [h], h2.suffix (skip_suffix _)⟩
  sign := fun ⟨h, _⟩ s _ => by rw [h]
  beg := fun ⟨h, _⟩ => by rw [h]
  drop := fun ⟨h, h2⟩ _ => ⟨by rw [h], h2.suffix (List.drop_suffix _ _)⟩
  leaf := fun k l m ⟨h, h2⟩ => by subst h; exact same_self _ fun a l1 e => h2.suffix (leaf_parts e).1
  limit := fun {l m} ⟨h, h2⟩ => by subst h; exact same_self _ fun a l1 e => h2.suffix (limit_parts e).1
  order := fun {l m} ⟨h, h2⟩ _ => by subst h; exact same_self _ fun a l1 e => h2.suffix ((order_parts e).1.trans (List.drop_suffix _ _))
  nil := ⟨rfl, by simp, by simp⟩
set_option maxRecDepth 100000 in
theorem fit_of {α : Type} {x : PR α} {P : List Nat → Prop} (h : Same2 (fun l m => l = m ∧ P l) x x) {a : α} {l : List Nat} (e : x = .ok a l) : P l := by
  subst e; exact h.2.2
set_option maxRecDepth 100000 in
theorem fit_not (k : Nat) {l l' : List Nat} {t : Nd} (h : Fit l) (e : notP k l = .ok t l') : Fit l' := fit_of (like_fit.not k l l ⟨rfl, h⟩) e
set_option maxRecDepth 100000 in
theorem fit_and (k : Nat) {l l' : List Nat} {t : Nd} (h : Fit l) (e : andP (notP k) l = .ok t l') : Fit l' := fit_of (like_fit.and_p k (like_fit.not k) ⟨rfl, h⟩) e
set_option maxRecDepth 100000 in
theorem fit_or (k : Nat) {l l' : List Nat} {t : Nd} (h : Fit l) (e : orP (andP (notP k)) l = .ok t l') : Fit l' := fit_of (like_fit.or_p k (like_fit.not k) ⟨rfl, h⟩) e

/-! ### A leaf that is read may be -/
set_option maxRecDepth 100000 in
theorem termOk_of {t : List Nat} (h : Term t) (hs : stopB t = false) : termOk (byteText t) = true := by
  unfold termOk
  rw [words_of_term h hs]
  simp [bytesL_byteText t (term_lt h)]
set_option maxRecDepth 100000 in
theorem mayTs_places (f : Int) (s : Nat) : ∀ (L : List (List Nat)) (n : Nat) (last : Int), (∀ t ∈ L, Term t) → last < (n : Int) - s → n + L.length ≤ 257 → mayTs f last ((placesF n L).map fun x => (f, byteText x.1, (x.2 : Int) - s)) = true
  | [], _, _, _, _, _ => rfl
  | t :: L, n, last, h, hl, hn => by
    rw [List.length_cons] at hn
    rw [placesF]
    split
    · exact mayTs_places f s L (n + 1) last (fun x hx => h x (by simp [hx])) (by omega) (by omega)
    · rename_i hs
      rw [List.map_cons, mayTs]
      simp only [Bool.and_eq_true, decide_eq_true_eq, beq_self_eq_true, and_true]
      refine ⟨⟨⟨hl, by omega⟩, termOk_of (h t (by simp)) (by simpa using hs)⟩, mayTs_places f s L (n + 1) _ (fun x hx => h x (by simp [hx])) (by omega) (by omega)⟩
set_option maxRecDepth 100000 in
theorem mayLeaf_places (f : Int) : ∀ (L : List (List Nat)) (n : Nat), (∀ t ∈ L, Term t) → n + L.length ≤ 257 → mayLeafB f (leafW f (placesF n L)) = true
  | [], _, _, _ => rfl
  | t :: L, n, h, hn => by
    rw [List.length_cons] at hn
    rw [placesF]
    split
    · exact mayLeaf_places f L (n + 1) (fun x hx => h x (by simp [hx])) (by omega)
    · rename_i hs
      unfold leafW mayLeafB
      rw [show firstP ((t, n) :: placesF (n + 1) L) = n from rfl, List.map_cons, mayTs]
      simp only [Bool.and_eq_true, decide_eq_true_eq, beq_self_eq_true, and_true, beq_iff_eq]
      refine ⟨by omega, ⟨⟨by omega, by omega⟩, termOk_of (h t (by simp)) (by simpa using hs)⟩, mayTs_places f n L (n + 1) _ (fun x hx => h x (by simp [hx])) (by omega) (by omega)⟩
set_option maxRecDepth 100000 in
theorem allR_term {q : List Nat} (h : ∀ r ∈ q, okR r) : ∀ t ∈ allR q, Term t := by
  refine (fair0.run (q ++ [32]) fun r hr => ?_).out
  rcases List.mem_append.1 hr with h1 | h1
  · exact h r h1
  · simp at h1; subst h1; exact ok_blank
set_option maxRecDepth 100000 in
theorem allR_few (q : List Nat) : (allR q).length ≤ q.length + 1 := by
  rw [allR_cut, List.length_map]
  exact cutA_le q []
set_option maxRecDepth 100000 in
theorem may_leafNd (w : Nat) (f : Int) (h0 : 0 ≤ f) (h4 : f < 4) (q : List Nat) (hq : ∀ r ∈ q, okR r) (hl : q.length ≤ 256) : mayT w (leafNd f q) = true := by
  unfold leafNd
  rw [mayT, if_pos rfl]
  simp only [Bool.and_eq_true, decide_eq_true_eq, List.isEmpty_nil, true_and]
  have := allR_few q
  exact ⟨⟨h0, h4⟩, mayLeaf_places f (allR q) 0 (allR_term hq) (by omega)⟩

/-! ### What is read may be -/
def NotR (k : Nat) (t : Nd) : Prop := ((t.kind = 1 ∨ t.kind = 4) ∧ mayT (8 - k) t = true) ∨ ((t.kind = 2 ∨ t.kind = 3) ∧ 1 ≤ k ∧ mayT (8 - k + 1) t = true)
def AndR (k : Nat) (t : Nd) : Prop := ((t.kind = 1 ∨ t.kind = 4 ∨ t.kind = 2) ∧ mayT (8 - k) t = true) ∨ (t.kind = 3 ∧ 1 ≤ k ∧ mayT (8 - k + 1) t = true)
set_option maxRecDepth 100000 in
theorem NotR.and {k : Nat} {t : Nd} (h : NotR k t) : AndR k t := by
  rcases h with ⟨h1, h2⟩ | ⟨h1 | h1, h2, h3⟩
  · exact .inl ⟨by omega, h2⟩
  · exact .inl ⟨by omega, mayT_less _ _ _ (by omega) h3⟩
  · exact .inr ⟨h1, h2, h3⟩
set_option maxRecDepth 100000 in
theorem AndR.or {k : Nat} {t : Nd} (h : AndR k t) : mayT (8 - k) t = true := by
  rcases h with ⟨h1, h2⟩ | ⟨h1, h2, h3⟩
  · exact h2
  · exact mayT_less _ _ _ (by omega) h3
set_option maxRecDepth 100000 in
theorem NotR.item {k : Nat} {t : Nd} (hk : k ≤ 8) (h : NotR k t) (p : Int) (hp : p ≠ 3) : (if brk p t.kind = true then 8 - k + 1 else 8 - k) ≤ 8 ∧ mayT (if brk p t.kind = true then 8 - k + 1 else 8 - k) t = true := by
  rcases h with ⟨h1, h2⟩ | ⟨h1, h2, h3⟩
  · have hb : brk p t.kind = false := by unfold brk; rcases h1 with h1 | h1 <;> rw [h1] <;> simp
    rw [hb]; exact ⟨by simp, h2⟩
  · have hb : brk p t.kind = true := by unfold brk; rcases h1 with h1 | h1 <;> rw [h1] <;> simp [hp]
    rw [hb]; exact ⟨by simp; omega, h3⟩
set_option maxRecDepth 100000 in
theorem AndR.item {k : Nat} {t : Nd} (hk : k ≤ 8) (h : AndR k t) : (if brk 3 t.kind = true then 8 - k + 1 else 8 - k) ≤ 8 ∧ mayT (if brk 3 t.kind = true then 8 - k + 1 else 8 - k) t = true := by
  rcases h with ⟨h1, h2⟩ | ⟨h1, h2, h3⟩
  · have hb : brk 3 t.kind = false := by unfold brk; rcases h1 with h1 | h1 | h1 <;> rw [h1] <;> simp
    rw [hb]; exact ⟨by simp, h2⟩
  · have hb : brk 3 t.kind = true := by unfold brk; rw [h1]; simp
    rw [hb]; exact ⟨by simp; omega, h3⟩
set_option maxRecDepth 100000 in
theorem join_and {k : Nat} (hk : k ≤ 8) {ps : List Nd} (hp : ps ≠ []) (h : ∀ x ∈ ps, NotR k x) : AndR k (joinN 2 ps) := by
  match ps, hp with
  | [x], _ => exact (h x (by simp)).and
  | x :: y :: l, _ =>
    rw [join_many]
    refine .inl ⟨.inr (.inr rfl), ?_⟩
    rw [mayT, if_neg (by decide), if_neg (by decide), Bool.and_eq_true, mayK_iff]
    exact ⟨by simp, fun z hz => (h z hz).item hk 2 (by decide)⟩
set_option maxRecDepth 100000 in
theorem join_or {k : Nat} (hk : k ≤ 8) {ps : List Nd} (hp : ps ≠ []) (h : ∀ x ∈ ps, AndR k x) : mayT (8 - k) (joinN 3 ps) = true := by
  match ps, hp with
  | [x], _ => exact (h x (by simp)).or
  | x :: y :: l, _ =>
    rw [join_many, mayT, if_neg (by decide), if_neg (by decide), Bool.and_eq_true, mayK_iff]
    exact ⟨by simp, fun z hz => (h z hz).item hk⟩
set_option maxRecDepth 100000 in
theorem and_may (k : Nat) (hk : k ≤ 8) (hn : ∀ l t l', Fit l → notP k l = .ok t l' → NotR k t) : ∀ (n : Nat) (ps : List Nd) (l : List Nat) (t : Nd) (l' : List Nat), l.length ≤ n → Fit l → ps ≠ [] → (∀ x ∈ ps, NotR k x) → andR k ps l = .ok t l' → AndR k t
  | n, ps, l, t, l', hl, hf, hp, hps, h => by
    have hs := skipB_le l
    have hd := List.length_drop (i := 1) (l := skipB l)
    rw [andR_step] at h
    have key : ∀ m, m <:+ l → ((notP k m).bind fun n l' => andR k (ps ++ [n]) l') = .ok t l' → AndR k t := fun m hm h => by
      obtain ⟨a, l1, e1, e2⟩ := bind_ok h
      have h4 := not_less k _ _ _ e1
      have h5 := hm.length_le
      have hfm := hf.suffix hm
      match n, hl with
      | 0, hl => omega
      | n + 1, hl =>
        refine and_may k hk hn n (ps ++ [a]) l1 t l' (by omega) (fit_not k hfm e1) (by simp) ?_ e2
        intro x hx
        rcases List.mem_append.1 hx with hx | hx
        · exact hps x hx
        · simp at hx; subst hx; exact hn _ _ _ hfm e1
    split at h
    · exact key _ ((List.drop_suffix _ _).trans (skip_suffix l)) h
    · split at h
      · exact key _ (skip_suffix l) h
      · injection h with h1 h2
        subst h1
        exact join_and hk hp hps
set_option maxRecDepth 100000 in
theorem and_may' (k : Nat) (hk : k ≤ 8) (hn : ∀ l t l', Fit l → notP k l = .ok t l' → NotR k t) {l : List Nat} {t : Nd} {l' : List Nat} (hf : Fit l) (h : andP (notP k) l = .ok t l') : AndR k t := by
  rw [andP_eq] at h
  obtain ⟨a, l1, e1, e2⟩ := bind_ok h
  exact and_may k hk hn _ [a] l1 t l' (Nat.le_refl _) (fit_not k hf e1) (by simp) (fun x hx => by simp at hx; subst hx; exact hn _ _ _ hf e1) e2
set_option maxRecDepth 100000 in
theorem or_may (k : Nat) (hk : k ≤ 8) (hn : ∀ l t l', Fit l → notP k l = .ok t l' → NotR k t) : ∀ (n : Nat) (ps : List Nd) (l : List Nat) (t : Nd) (l' : List Nat), l.length ≤ n → Fit l → ps ≠ [] → (∀ x ∈ ps, AndR k x) → orR k ps l = .ok t l' → mayT (8 - k) t = true
  | n, ps, l, t, l', hl, hf, hp, hps, h => by
    have hs := skipB_le l
    have hd := List.length_drop (i := 1) (l := skipB l)
    rw [orR_step] at h
    split at h
    · obtain ⟨a, l1, e1, e2⟩ := bind_ok h
      have h4 := and_less (not_less k) _ _ _ e1
      have hfm := hf.suffix ((List.drop_suffix 1 _).trans (skip_suffix l))
      match n, hl with
      | 0, hl => omega
      | n + 1, hl =>
        refine or_may k hk hn n (ps ++ [a]) l1 t l' (by omega) (fit_and k hfm e1) (by simp) ?_ e2
        intro x hx
        rcases List.mem_append.1 hx with hx | hx
        · exact hps x hx
        · simp at hx; subst hx; exact and_may' k hk hn hfm e1
    · injection h with h1 h2
      subst h1
      exact join_or hk hp hps
set_option maxRecDepth 100000 in
theorem or_may' (k : Nat) (hk : k ≤ 8) (hn : ∀ l t l', Fit l → notP k l = .ok t l' → NotR k t) {l : List Nat} {t : Nd} {l' : List Nat} (hf : Fit l) (h : orP (andP (notP k)) l = .ok t l') : mayT (8 - k) t = true := by
  rw [orP_eq] at h
  obtain ⟨a, l1, e1, e2⟩ := bind_ok h
  exact or_may k hk hn _ [a] l1 t l' (Nat.le_refl _) (fit_and k hf e1) (by simp) (fun x hx => by simp at hx; subst hx; exact and_may' k hk hn hf e1) e2
set_option maxRecDepth 100000 in
theorem leaf_may (k : Nat) {l l' : List Nat} {t : Nd} (hf : Fit l) (h : leafP k l = .ok t l') : NotR k t := by
  obtain ⟨_, f, q, rfl, h1, h2, h3, h4⟩ := leaf_parts h
  have := hf.few
  exact .inl ⟨.inl rfl, may_leafNd _ f h1 h2 q (fun r hr => hf.ok r (h3 r hr)) (by omega)⟩
set_option maxRecDepth 100000 in
theorem not_may : ∀ (k : Nat), k ≤ 8 → ∀ (l : List Nat) (t : Nd) (l' : List Nat), Fit l → notP k l = .ok t l' → NotR k t
  | 0, _, l, t, l', hf, h => by
    rw [notP] at h
    split at h
    · cases h
    · exact leaf_may 0 (hf.suffix (skip_suffix l)) h
  | k + 1, hk, l, t, l', hf, h => by
    have hfd := hf.suffix ((List.drop_suffix 1 _).trans (skip_suffix l))
    rw [notP] at h
    split at h
    · obtain ⟨a, e, rfl⟩ := map_ok h
      have hi := (not_may k (by omega) _ _ _ hfd e).item (by omega) 4 (by decide)
      refine .inl ⟨.inr rfl, ?_⟩
      have e8 : 8 - (k + 1) + 1 = 8 - k := by omega
      rw [mayT, if_neg (by decide), if_pos rfl, Bool.and_eq_true, mayK_iff, e8]
      exact ⟨by simp, fun x hx => by simp at hx; subst hx; exact hi⟩
    · split at h
      · obtain ⟨a, l1, e1, e2⟩ := bind_ok h
        have hm := or_may' k (by omega) (not_may k (by omega)) hfd e1
        have e8 : 8 - (k + 1) + 1 = 8 - k := by omega
        have ht : a = t := by
          split at e2
          · injection e2
          · cases e2
        subst ht
        have hkk := mayT_kind hm
        by_cases h14 : a.kind = 1 ∨ a.kind = 4
        · exact .inl ⟨h14, mayT_less _ _ _ (by omega) hm⟩
        · exact .inr ⟨by omega, by omega, by rw [e8]; exact hm⟩
      · exact leaf_may (k + 1) (hf.suffix (skip_suffix l)) h
set_option maxRecDepth 100000 in
theorem opt_may : ∀ (n : Nat) (o : Opt) (l : List Nat) (o' : Opt) (l' : List Nat), l.length ≤ n → 0 ≤ o.lim → o.lim ≤ 64 → (o.ord = 0 ∨ o.ord = 1) → optR o l = .ok o' l' → 0 ≤ o'.lim ∧ o'.lim ≤ 64 ∧ (o'.ord = 0 ∨ o'.ord = 1) ∧ l' = []
  | n, o, l, o', l', hl, h1, h2, h3, h => by
    have hs := skipB_le l
    have hd := List.length_drop (i := 1) (l := skipB l)
    rw [optR_step] at h
    split at h
    · obtain ⟨a, l1, e1, e2⟩ := bind_ok h
      have h4 := limit_less _ _ _ e1
      have h5 := limit_parts e1
      match n, hl with
      | 0, hl => omega
      | n + 1, hl => exact opt_may n ⟨a, true, o.ord, o.ordd⟩ l1 o' l' (by omega) h5.2.1 h5.2.2 h3 e2
    · split at h
      · obtain ⟨a, l1, e1, e2⟩ := bind_ok h
        have h4 := order_less _ _ _ e1
        have h5 := order_parts e1
        match n, hl with
        | 0, hl => omega
        | n + 1, hl => exact opt_may n ⟨o.lim, o.limd, a, true⟩ l1 o' l' (by omega) h1 h2 h5.2 e2
      · split at h
        · injection h with e1 e2; subst e1 e2; exact ⟨h1, h2, h3, rfl⟩
        · cases h
set_option maxRecDepth 100000 in
/-- A query that is read may be. -/
theorem parse_may {l l' : List Nat} {t : Nd} {o : Opt} (hf : Fit l) (h : parseR l = .ok (t, o) l') : mayQ t o.lim o.ord = true ∧ l' = [] := by
  rw [parseR_eq] at h
  obtain ⟨a, l1, e1, e2⟩ := bind_ok h
  obtain ⟨b, e3, e4⟩ := map_ok e2
  injection e4 with e5 e6
  subst e5 e6
  obtain ⟨h1, h2, h3, h4⟩ := opt_may _ _ _ _ _ (Nat.le_refl _) (by decide) (by decide) (.inl rfl) e3
  have hm := or_may' 8 (Nat.le_refl _) (not_may 8 (Nat.le_refl _)) hf e1
  unfold mayQ
  simp only [Bool.and_eq_true, Bool.or_eq_true, decide_eq_true_eq, beq_iff_eq]
  exact ⟨⟨⟨⟨h1, h2⟩, h3⟩, hm⟩, h4⟩
end Go.Proofs.YtaaeooimalglaaaDoor
