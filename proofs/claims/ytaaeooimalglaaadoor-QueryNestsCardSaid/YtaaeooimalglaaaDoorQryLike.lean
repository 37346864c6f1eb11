/-
  Two texts that are read alike, part by part; blanks behind a text; letters folded. Without the program's text.
-/
import Derived.Test.YtaaeooimalglaaaDoorQryPure
namespace Go.Proofs.YtaaeooimalglaaaDoor

/-- What is read of two texts comes to the same. -/
def Same2 (E : List Nat → List Nat → Prop) {α : Type} : PR α → PR α → Prop
  | .ok a l, .ok b m => a = b ∧ E l m
  | .err e, .err f => e = f
  | _, _ => False
structure Like (E : List Nat → List Nat → Prop) : Prop where
  skip : ∀ {l m}, E l m → E (skipB l) (skipB m)
  sign : ∀ {l m}, E l m → ∀ s ∈ [-1, 33, 34, 35, 38, 40, 41, 64, 124], (headZ (skipB l) = s ↔ headZ (skipB m) = s)
  beg : ∀ {l m}, E l m → beginB (headZ (skipB l)) = beginB (headZ (skipB m))
  drop : ∀ {l m}, E l m → headZ l ≠ -1 → E (l.drop 1) (m.drop 1)
  leaf : ∀ (k : Nat) {l m}, E l m → Same2 E (leafP k l) (leafP k m)
  limit : ∀ {l m}, E l m → Same2 E (limitP l) (limitP m)
  order : ∀ {l m}, E l m → headZ l = 64 → Same2 E (orderP (l.drop 1)) (orderP (m.drop 1))
  nil : E [] []
section
variable {E : List Nat → List Nat → Prop}
set_option maxRecDepth 100000 in
theorem same_bind {α β : Type} {x y : PR α} {f g : α → List Nat → PR β} (h : Same2 E x y) (hf : ∀ a l m, x = .ok a l → y = .ok a m → E l m → Same2 E (f a l) (g a m)) : Same2 E (x.bind f) (y.bind g) := by
  cases x with
  | ok a l =>
    cases y with
    | ok b m => obtain ⟨rfl, h2⟩ := h; exact hf a l m rfl rfl h2
    | err e => exact h.elim
  | err e =>
    cases y with
    | ok b m => exact h.elim
    | err f => exact h
set_option maxRecDepth 100000 in
theorem same_map {α β : Type} {x y : PR α} {f : α → β} (h : Same2 E x y) : Same2 E (x.map f) (y.map f) := same_bind h fun _ _ _ _ _ h => ⟨rfl, h⟩
set_option maxRecDepth 100000 in
theorem Like.fail (L : Like E) (k : Nat) {l m : List Nat} (h : E l m) : failE k l = failE k m := by
  have h1 := L.sign h 40 (by decide)
  have h2 := L.sign h 33 (by decide)
  unfold failE
  simp only [h1, h2]
set_option maxRecDepth 100000 in
theorem Like.and (L : Like E) (k : Nat) (hn : ∀ l m, E l m → Same2 E (notP k l) (notP k m)) : ∀ (n : Nat) (ps : List Nd) (l m : List Nat), l.length ≤ n → E l m → Same2 E (andR k ps l) (andR k ps m)
  | n, ps, l, m, hl, h => by
    have h1 := L.sign h 38 (by decide)
    have h3 := L.beg h
    have hs := skipB_le l
    rw [andR_step, andR_step]
    by_cases c1 : headZ (skipB l) = 38
    · rw [if_pos c1, if_pos (h1.1 c1)]
      refine same_bind (hn _ _ (L.drop (L.skip h) (by omega))) fun a l1 m1 e1 _ h2 => ?_
      have h4 := not_less k _ _ _ e1
      have := List.length_drop (i := 1) (l := skipB l)
      match n, hl with
      | 0, hl => omega
      | n + 1, hl => exact L.and k hn n _ _ _ (by omega) h2
    · rw [if_neg c1, if_neg (fun e => c1 (h1.2 e))]
      by_cases c2 : beginB (headZ (skipB l)) = true
      · rw [if_pos c2, if_pos (h3 ▸ c2)]
        refine same_bind (hn _ _ (L.skip h)) fun a l1 m1 e1 _ h2 => ?_
        have h4 := not_less k _ _ _ e1
        match n, hl with
        | 0, hl => omega
        | n + 1, hl => exact L.and k hn n _ _ _ (by omega) h2
      · rw [if_neg c2, if_neg (h3 ▸ c2)]
        exact ⟨rfl, L.skip h⟩
set_option maxRecDepth 100000 in
theorem Like.and_p (L : Like E) (k : Nat) (hn : ∀ l m, E l m → Same2 E (notP k l) (notP k m)) {l m : List Nat} (h : E l m) : Same2 E (andP (notP k) l) (andP (notP k) m) := by
  rw [andP_eq, andP_eq]
  exact same_bind (hn _ _ h) fun a l1 m1 _ _ h2 => L.and k hn _ _ _ _ (Nat.le_refl _) h2
set_option maxRecDepth 100000 in
theorem Like.or (L : Like E) (k : Nat) (hn : ∀ l m, E l m → Same2 E (notP k l) (notP k m)) : ∀ (n : Nat) (ps : List Nd) (l m : List Nat), l.length ≤ n → E l m → Same2 E (orR k ps l) (orR k ps m)
  | n, ps, l, m, hl, h => by
    have h1 := L.sign h 124 (by decide)
    have hs := skipB_le l
    rw [orR_step, orR_step]
    by_cases c1 : headZ (skipB l) = 124
    · rw [if_pos c1, if_pos (h1.1 c1)]
      refine same_bind (L.and_p k hn (L.drop (L.skip h) (by omega))) fun a l1 m1 e1 _ h2 => ?_
      have h4 := and_less (not_less k) _ _ _ e1
      have := List.length_drop (i := 1) (l := skipB l)
      match n, hl with
      | 0, hl => omega
      | n + 1, hl => exact L.or k hn n _ _ _ (by omega) h2
    · rw [if_neg c1, if_neg (fun e => c1 (h1.2 e))]
      exact ⟨rfl, L.skip h⟩
set_option maxRecDepth 100000 in
theorem Like.or_p (L : Like E) (k : Nat) (hn : ∀ l m, E l m → Same2 E (notP k l) (notP k m)) {l m : List Nat} (h : E l m) : Same2 E (orP (andP (notP k)) l) (orP (andP (notP k)) m) := by
  rw [orP_eq, orP_eq]
  exact same_bind (L.and_p k hn h) fun a l1 m1 _ _ h2 => L.or k hn _ _ _ _ (Nat.le_refl _) h2
set_option maxRecDepth 100000 in
theorem Like.not (L : Like E) : ∀ (k : Nat) (l m : List Nat), E l m → Same2 E (notP k l) (notP k m)
  | 0, l, m, h => by
    have h1 := L.sign h 33 (by decide)
    have h2 := L.sign h 40 (by decide)
    rw [notP, notP]
    by_cases c1 : headZ (skipB l) = 33 ∨ headZ (skipB l) = 40
    · rw [if_pos c1, if_pos (by rwa [← h1, ← h2])]
      rfl
    · rw [if_neg c1, if_neg (by rwa [← h1, ← h2])]
      exact L.leaf 0 (L.skip h)
  | k + 1, l, m, h => by
    have h1 := L.sign h 33 (by decide)
    have h2 := L.sign h 40 (by decide)
    rw [notP, notP]
    by_cases c1 : headZ (skipB l) = 33
    · rw [if_pos c1, if_pos (h1.1 c1)]
      exact same_map (L.not k _ _ (L.drop (L.skip h) (by omega)))
    · rw [if_neg c1, if_neg (fun e => c1 (h1.2 e))]
      by_cases c2 : headZ (skipB l) = 40
      · rw [if_pos c2, if_pos (h2.1 c2)]
        refine same_bind (L.or_p k (L.not k) (L.drop (L.skip h) (by omega))) fun a l1 m1 _ _ h3 => ?_
        have h4 := L.sign h3 41 (by decide)
        by_cases c3 : headZ (skipB l1) = 41
        · rw [if_pos c3, if_pos (h4.1 c3)]
          exact ⟨rfl, L.drop (L.skip h3) (by omega)⟩
        · rw [if_neg c3, if_neg (fun e => c3 (h4.2 e))]
          exact L.fail k (L.skip h3)
      · rw [if_neg c2, if_neg (fun e => c2 (h2.2 e))]
        exact L.leaf (k + 1) (L.skip h)
set_option maxRecDepth 100000 in
theorem Like.opt (L : Like E) : ∀ (n : Nat) (o : Opt) (l m : List Nat), l.length ≤ n → E l m → Same2 E (optR o l) (optR o m)
  | n, o, l, m, hl, h => by
    have h1 := L.sign h 35 (by decide)
    have h2 := L.sign h 64 (by decide)
    have h3 := L.sign h (-1) (by decide)
    have hs := skipB_le l
    rw [optR_step, optR_step]
    by_cases c1 : headZ (skipB l) = 35 ∧ o.limd = false
    · rw [if_pos c1, if_pos (show headZ (skipB m) = 35 ∧ o.limd = false by rwa [← h1])]
      refine same_bind (L.limit (L.drop (L.skip h) (by omega))) fun a l1 m1 e1 _ h4 => ?_
      have := limit_less _ _ _ e1
      have := List.length_drop (i := 1) (l := skipB l)
      match n, hl with
      | 0, hl => omega
      | n + 1, hl => exact L.opt n _ _ _ (by omega) h4
    · rw [if_neg c1, if_neg (show ¬ (headZ (skipB m) = 35 ∧ o.limd = false) by rwa [← h1])]
      by_cases c2 : headZ (skipB l) = 64 ∧ o.ordd = false
      · rw [if_pos c2, if_pos (show headZ (skipB m) = 64 ∧ o.ordd = false by rwa [← h2])]
        refine same_bind (L.order (L.skip h) c2.1) fun a l1 m1 e1 _ h4 => ?_
        have := order_less _ _ _ e1
        have := List.length_drop (i := 1) (l := skipB l)
        match n, hl with
        | 0, hl => omega
        | n + 1, hl => exact L.opt n _ _ _ (by omega) h4
      · rw [if_neg c2, if_neg (show ¬ (headZ (skipB m) = 64 ∧ o.ordd = false) by rwa [← h2])]
        by_cases c3 : headZ (skipB l) = -1
        · rw [if_pos c3, if_pos (h3.1 c3)]
          exact ⟨rfl, L.nil⟩
        · rw [if_neg c3, if_neg (fun e => c3 (h3.2 e))]
          exact L.fail 8 (L.skip h)
set_option maxRecDepth 100000 in
theorem Like.parse (L : Like E) {l m : List Nat} (h : E l m) : Same2 E (parseR l) (parseR m) := by
  rw [parseR_eq, parseR_eq]
  exact same_bind (L.or_p 8 (L.not 8) h) fun a l1 m1 _ _ h2 => same_map (L.opt _ _ _ _ (Nat.le_refl _) h2)
end

/-! ### Blanks behind a text -/
def Bl (B : List Nat) : Prop := ∀ c ∈ B, blankB c = true
def ExtB (l m : List Nat) : Prop := ∃ B, Bl B ∧ m = l ++ B
set_option maxRecDepth 100000 in
theorem blank_let : ∀ c : Nat, blankB c = true → letB c = false ∧ c ≠ 34 ∧ c ≠ 58 := by
  intro c h
  have : c = 32 ∨ c = 9 ∨ c = 10 ∨ c = 13 := by unfold blankB at h; simp at h; omega
  rcases this with rfl | rfl | rfl | rfl <;> decide +kernel
set_option maxRecDepth 100000 in
theorem skip_all : ∀ {B : List Nat}, Bl B → skipB B = []
  | [], _ => rfl
  | c :: B, h => by
    rw [skipB, if_pos (h c (by simp))]
    exact skip_all fun x hx => h x (by simp [hx])
set_option maxRecDepth 100000 in
theorem skip_ext {B : List Nat} (hB : Bl B) : ∀ l : List Nat, (skipB l = [] ∧ skipB (l ++ B) = []) ∨ (skipB l ≠ [] ∧ skipB (l ++ B) = skipB l ++ B)
  | [] => .inl ⟨rfl, skip_all hB⟩
  | c :: l => by
    rw [List.cons_append, skipB, skipB]
    split
    · exact skip_ext hB l
    · exact .inr ⟨by simp, rfl⟩
set_option maxRecDepth 100000 in
theorem head_ext {l m : List Nat} (h : ExtB l m) : headZ (skipB m) = headZ (skipB l) := by
  obtain ⟨B, hB, rfl⟩ := h
  rcases skip_ext hB l with ⟨h1, h2⟩ | ⟨h1, h2⟩
  · rw [h1, h2]
  · rw [h2]
    cases hs : skipB l with
    | nil => exact absurd hs h1
    | cons c r => rfl
set_option maxRecDepth 100000 in
theorem ExtB.skip {l m : List Nat} (h : ExtB l m) : ExtB (skipB l) (skipB m) := by
  obtain ⟨B, hB, rfl⟩ := h
  rcases skip_ext hB l with ⟨h1, h2⟩ | ⟨h1, h2⟩
  · rw [h1, h2]; exact ⟨[], by simp [Bl], rfl⟩
  · exact ⟨B, hB, h2⟩
set_option maxRecDepth 100000 in
theorem ExtB.drop {l m : List Nat} (h : ExtB l m) (hl : headZ l ≠ -1) : ExtB (l.drop 1) (m.drop 1) := by
  obtain ⟨B, hB, rfl⟩ := h
  cases l with
  | nil => exact absurd rfl hl
  | cons c r => exact ⟨B, hB, rfl⟩
set_option maxRecDepth 100000 in
theorem takeW_ext (p : Nat → Bool) {B : List Nat} (hB : ∀ c ∈ B, p c = false) : ∀ l : List Nat, (l ++ B).takeWhile p = l.takeWhile p ∧ (l ++ B).dropWhile p = l.dropWhile p ++ B
  | [] => by
    cases B with
    | nil => exact ⟨rfl, rfl⟩
    | cons c B =>
      have := hB c (by simp)
      simp [this]
  | c :: l => by
    obtain ⟨h1, h2⟩ := takeW_ext p hB l
    rw [List.cons_append, List.takeWhile_cons, List.takeWhile_cons, List.dropWhile_cons, List.dropWhile_cons]
    split
    · exact ⟨by rw [h1], h2⟩
    · exact ⟨rfl, rfl⟩
set_option maxRecDepth 100000 in
theorem fail_ext (k : Nat) {l m : List Nat} (h : ExtB l m) : failE k l = failE k m := by unfold failE; rw [head_ext h]
set_option maxRecDepth 100000 in
theorem word_ext (k : Nat) {l m : List Nat} (h : ExtB l m) : Same2 ExtB (wordP k l) (wordP k m) := by
  have hh := head_ext h
  have hs := h.skip
  unfold wordP
  rw [hh]
  split
  · exact fail_ext k hs
  · obtain ⟨B, hB, e⟩ := hs
    rw [e]
    obtain ⟨h1, h2⟩ := takeW_ext letB (fun c hc => (blank_let c (hB c hc)).1) (skipB l)
    exact ⟨h1.symm, B, hB, h2⟩
set_option maxRecDepth 100000 in
theorem phrase_ext {l m : List Nat} (h : ExtB l m) : Same2 ExtB (phraseP l) (phraseP m) := by
  obtain ⟨B, hB, rfl⟩ := h
  have hB2 : 34 ∉ B := fun h34 => (blank_let 34 (hB 34 h34)).2.1 rfl
  unfold phraseP
  by_cases c : 34 ∈ l
  · rw [if_pos c, if_pos (List.mem_append_left _ c)]
    have : ∀ l : List Nat, 34 ∈ l → (l ++ B).takeWhile (· != 34) = l.takeWhile (· != 34) ∧ ((l ++ B).dropWhile (· != 34)).drop 1 = (l.dropWhile (· != 34)).drop 1 ++ B := by
      intro l
      induction l with
      | nil => intro h; simp at h
      | cons c r ih =>
        intro hc
        rw [List.cons_append, List.takeWhile_cons, List.takeWhile_cons, List.dropWhile_cons, List.dropWhile_cons]
        by_cases h34 : c = 34
        · subst h34; simp
        · have hr : 34 ∈ r := by
            rcases List.mem_cons.1 hc with h | h
            · exact absurd h.symm h34
            · exact h
          rw [if_pos (by simpa using h34), if_pos (by simpa using h34), if_pos (by simpa using h34), if_pos (by simpa using h34)]
          exact ⟨by rw [(ih hr).1], (ih hr).2⟩
    obtain ⟨h1, h2⟩ := this l c
    exact ⟨h1.symm, B, hB, h2⟩
  · rw [if_neg c, if_neg (by simp [c, hB2])]
    rfl
set_option maxRecDepth 100000 in
theorem field_ext {l m : List Nat} (h : ExtB l m) : (fieldP m).1 = (fieldP l).1 ∧ ExtB (fieldP l).2 (fieldP m).2 := by
  have hs := h.skip
  obtain ⟨B, hB, e⟩ := hs
  unfold fieldP
  rw [e]
  match hl : skipB l with
  | [] =>
    match B, hB with
    | [], hB => exact ⟨rfl, [], hB, rfl⟩
    | [b], hB => exact ⟨rfl, [b], hB, rfl⟩
    | b :: b2 :: B, hB =>
      have := (blank_let b2 (hB b2 (by simp))).2.2
      simp only [List.nil_append]
      split
      · rename_i h1; injection h1 with h1 h2; injection h2 with h2 h3; exact absurd h2 this
      · exact ⟨rfl, b :: b2 :: B, hB, rfl⟩
  | [c] =>
    match B, hB with
    | [], hB => exact ⟨rfl, [], hB, rfl⟩
    | b :: B, hB =>
      have := (blank_let b (hB b (by simp))).2.2
      simp only [List.singleton_append]
      split
      · rename_i h1; injection h1 with h1 h2; injection h2 with h2 h3; exact absurd h2 this
      · exact ⟨rfl, b :: B, hB, rfl⟩
  | c :: d :: r =>
    simp only [List.cons_append]
    by_cases hd : d = 58
    · subst hd
      simp only
      split
      · exact ⟨rfl, B, hB, rfl⟩
      · exact ⟨rfl, B, hB, rfl⟩
    · split
      · rename_i h1; injection h1 with h1 h2; injection h2 with h2 h3; exact absurd h2 hd
      · split
        · rename_i h1; injection h1 with h1 h2; injection h2 with h2 h3; exact absurd h2 hd
        · exact ⟨rfl, B, hB, rfl⟩
set_option maxRecDepth 100000 in
theorem leaf_ext (k : Nat) {l m : List Nat} (h : ExtB l m) : Same2 ExtB (leafP k l) (leafP k m) := by
  obtain ⟨h1, h2⟩ := field_ext h
  unfold leafP
  rw [h1, head_ext h2]
  split
  · exact same_map (phrase_ext (h2.skip.drop (by omega)))
  · exact same_map (word_ext k h2)
set_option maxRecDepth 100000 in
theorem like_blank : Like ExtB where
  skip := ExtB.skip
  sign := fun h s _ => by rw [head_ext h]
  beg := fun h => by rw [head_ext h]
  drop := ExtB.drop
  leaf := leaf_ext
  limit := fun h => by
    unfold limitP
    refine same_bind (word_ext 8 h) fun a l m _ _ h2 => ?_
    split
    · exact fail_ext 8 h2
    · exact ⟨rfl, h2⟩
  order := fun h h64 => by
    unfold orderP
    refine same_bind (word_ext 8 (h.drop (by omega))) fun a l m _ _ h2 => ?_
    split
    · exact ⟨rfl, h2⟩
    · split
      · exact ⟨rfl, h2⟩
      · exact fail_ext 8 h2
  nil := ⟨[], by simp [Bl], rfl⟩
set_option maxRecDepth 100000 in
/-- Blanks ahead. -/
theorem skip_ahead {A : List Nat} (hA : Bl A) (l : List Nat) : skipB (A ++ l) = skipB l := by
  induction A with
  | nil => rfl
  | cons c A ih =>
    rw [List.cons_append, skipB, if_pos (hA c (by simp))]
    exact ih fun x hx => hA x (by simp [hx])
set_option maxRecDepth 100000 in
theorem leafP_skip (k : Nat) (l : List Nat) : leafP k (skipB l) = leafP k l := by
  have : fieldP (skipB l) = fieldP l := by unfold fieldP; rw [skipB_skip]
  unfold leafP
  rw [this]
set_option maxRecDepth 100000 in
theorem notP_skip (k : Nat) (l : List Nat) : notP k (skipB l) = notP k l := by
  cases k with
  | zero => rw [notP, notP, skipB_skip]
  | succ k => rw [notP, notP, skipB_skip]
set_option maxRecDepth 100000 in
theorem andP_skip (k : Nat) (l : List Nat) : andP (notP k) (skipB l) = andP (notP k) l := by rw [andP_eq, andP_eq, notP_skip]
set_option maxRecDepth 100000 in
theorem orP_skip (k : Nat) (l : List Nat) : orP (andP (notP k)) (skipB l) = orP (andP (notP k)) l := by rw [orP_eq, orP_eq, andP_skip]
set_option maxRecDepth 100000 in
theorem parse_skip (l : List Nat) : parseR (skipB l) = parseR l := by rw [parseR_eq, parseR_eq, orP_skip]
/-- What a text comes to, be it a tree or an error. -/
def Alike {α : Type} (x y : PR α) : Prop := Same2 (fun _ _ => True) x y
set_option maxRecDepth 100000 in
theorem same_alike {E : List Nat → List Nat → Prop} {α : Type} {x y : PR α} (h : Same2 E x y) : Alike x y := by
  cases x with
  | ok a l =>
    cases y with
    | ok b m => exact ⟨h.1, trivial⟩
    | err e => exact h
  | err e =>
    cases y with
    | ok b m => exact h
    | err f => exact h
set_option maxRecDepth 100000 in
theorem blanks_alike {A B : List Nat} (hA : Bl A) (hB : Bl B) (l : List Nat) : Alike (parseR l) (parseR (A ++ l ++ B)) := by
  have h1 : parseR (A ++ (l ++ B)) = parseR (l ++ B) := by rw [← parse_skip, skip_ahead hA, parse_skip]
  rw [List.append_assoc, h1]
  exact same_alike (like_blank.parse ⟨B, hB, rfl⟩)

/-! ### Case -/
structure LowC (l : List Nat) : Prop where
  low : ∀ c ∈ l, c < 128
  at_ : ∀ i, l[i]? = some 64 → l.length = i + 1
set_option maxRecDepth 100000 in
theorem LowC.suffix {l m : List Nat} (h : LowC l) (hs : m <:+ l) : LowC m := by
  obtain ⟨p, rfl⟩ := hs
  refine ⟨fun c hc => h.low c (by simp [hc]), fun i hi => ?_⟩
  have := h.at_ (p.length + i) (by rw [List.getElem?_append_right (by omega)]; simpa using hi)
  rw [List.length_append] at this
  omega
def ExtC (l m : List Nat) : Prop := LowC l ∧ m = l.map foldN
set_option maxRecDepth 100000 in
theorem fold_near : ∀ c : Nat, c < 128 → foldN c < 128 ∧ blankB (foldN c) = blankB c ∧ (c < 65 → foldN c = c) ∧ (foldN c < 65 → foldN c = c) ∧ (foldN c = 124 → c = 124) ∧ (c = 124 → foldN c = 124) ∧ classZ ((foldN c : Nat) : Int) = classZ (c : Int) := by decide +kernel
set_option maxRecDepth 100000 in
theorem skip_suffix : ∀ l : List Nat, skipB l <:+ l
  | [] => List.suffix_refl _
  | c :: l => by
    rw [skipB]
    split
    · exact (skip_suffix l).trans (List.suffix_cons c l)
    · exact List.suffix_refl _
set_option maxRecDepth 100000 in
theorem skip_fold : ∀ {l : List Nat}, (∀ c ∈ l, c < 128) → skipB (l.map foldN) = (skipB l).map foldN
  | [], _ => rfl
  | c :: l, h => by
    have hc := fold_near c (h c (by simp))
    rw [List.map_cons, skipB, skipB, hc.2.1]
    split
    · exact skip_fold fun x hx => h x (by simp [hx])
    · rfl
set_option maxRecDepth 100000 in
theorem headZ_fold {l : List Nat} (h : ∀ c ∈ l, c < 128) (s : Int) (hs : s < 65 ∨ s = 124) : headZ l = s ↔ headZ (l.map foldN) = s := by
  cases l with
  | nil => exact Iff.rfl
  | cons c l =>
    obtain ⟨_, _, h3, h4, h5, h6, _⟩ := fold_near c (h c (by simp))
    simp only [List.map_cons, headZ]
    constructor
    · intro e
      rcases hs with hs | hs
      · rw [h3 (by omega)]; exact e
      · have := h6 (by omega); omega
    · intro e
      rcases hs with hs | hs
      · rw [← h4 (by omega)]; exact e
      · have := h5 (by omega); omega
set_option maxRecDepth 100000 in
theorem class_fold {l : List Nat} (h : ∀ c ∈ l, c < 128) : classZ (headZ (l.map foldN)) = classZ (headZ l) := by
  cases l with
  | nil => rfl
  | cons c l => exact (fold_near c (h c (by simp))).2.2.2.2.2.2
set_option maxRecDepth 100000 in
theorem ExtC.skip {l m : List Nat} (h : ExtC l m) : ExtC (skipB l) (skipB m) := by
  obtain ⟨h1, rfl⟩ := h
  exact ⟨h1.suffix (skip_suffix l), skip_fold h1.low⟩
set_option maxRecDepth 100000 in
theorem ExtC.head {l m : List Nat} (h : ExtC l m) (s : Int) (hs : s < 65 ∨ s = 124) : headZ l = s ↔ headZ m = s := by
  obtain ⟨h1, rfl⟩ := h
  exact headZ_fold h1.low s hs
set_option maxRecDepth 100000 in
theorem ExtC.class {l m : List Nat} (h : ExtC l m) : classZ (headZ m) = classZ (headZ l) := by
  obtain ⟨h1, rfl⟩ := h
  exact class_fold h1.low
set_option maxRecDepth 100000 in
theorem ExtC.drop {l m : List Nat} (h : ExtC l m) : ExtC (l.drop 1) (m.drop 1) := by
  obtain ⟨h1, rfl⟩ := h
  exact ⟨h1.suffix (List.drop_suffix _ _), by rw [List.map_drop]⟩
set_option maxRecDepth 100000 in
theorem takeW_fold (p : Nat → Bool) : ∀ {l : List Nat}, (∀ c ∈ l, p (foldN c) = p c) → (l.map foldN).takeWhile p = (l.takeWhile p).map foldN ∧ (l.map foldN).dropWhile p = (l.dropWhile p).map foldN
  | [], _ => ⟨rfl, rfl⟩
  | c :: l, h => by
    obtain ⟨h1, h2⟩ := takeW_fold p (l := l) fun x hx => h x (by simp [hx])
    rw [List.map_cons, List.takeWhile_cons, List.takeWhile_cons, List.dropWhile_cons, List.dropWhile_cons, h c (by simp)]
    split
    · exact ⟨by rw [h1]; rfl, h2⟩
    · exact ⟨rfl, rfl⟩
set_option maxRecDepth 100000 in
theorem fail_c (k : Nat) {l m : List Nat} (h : ExtC l m) : failE k l = failE k m := by
  have h1 := h.skip.head 40 (by omega)
  have h2 := h.skip.head 33 (by omega)
  unfold failE
  simp only [h1, h2]
set_option maxRecDepth 100000 in
/-- Words that are the same but for case. -/
theorem word_c (k : Nat) {l m : List Nat} (h : ExtC l m) : (∃ q l1, wordP k l = .ok q l1 ∧ wordP k m = .ok (q.map foldN) (l1.map foldN) ∧ LowC l1 ∧ ∀ c ∈ q, c < 128) ∨ (∃ e, wordP k l = .err e ∧ wordP k m = .err e) := by
  have hs := h.skip
  have hc := hs.class
  unfold wordP
  rw [hc]
  split
  · exact .inr ⟨_, rfl, by rw [fail_c k hs]⟩
  · obtain ⟨h1, h2⟩ := hs
    obtain ⟨h3, h4⟩ := takeW_fold letB (l := skipB l) fun c hc => by
      have := (fold_near c (h1.low c hc)).2.2.2.2.2.2
      unfold letB
      rw [this]
    refine .inl ⟨_, _, rfl, by rw [h2, h3, h4], h1.suffix (List.dropWhile_suffix _), fun c hc => h1.low c (List.takeWhile_subset _ hc)⟩
set_option maxRecDepth 100000 in
theorem ok_low {c : Nat} (h : c < 128) : okR c := by unfold okR; omega
set_option maxRecDepth 100000 in
theorem leafNd_fold (f : Int) {q : List Nat} (h : ∀ c ∈ q, c < 128) : leafNd f (q.map foldN) = leafNd f q := by
  unfold leafNd wordsR
  rw [allR_fold q fun c hc => ok_low (h c hc)]
set_option maxRecDepth 100000 in
theorem limZ_fold {q : List Nat} (h : ∀ c ∈ q, c < 128) : limZ (q.map foldN) = limZ q := by
  match q, h with
  | [], _ => rfl
  | [a], h =>
    obtain ⟨_, _, h3, h4, _⟩ := fold_near a (h a (by simp))
    simp only [List.map_cons, List.map_nil, limZ]
    by_cases c : a < 65
    · rw [h3 c]
    · rw [if_neg (by omega), if_neg]
      intro hc
      have := h4 (by omega)
      omega
  | [a, b], h =>
    obtain ⟨_, _, h3, h4, _⟩ := fold_near a (h a (by simp))
    obtain ⟨_, _, g3, g4, _⟩ := fold_near b (h b (by simp))
    simp only [List.map_cons, List.map_nil, limZ]
    by_cases c : a < 65 ∧ b < 65
    · rw [h3 c.1, g3 c.2]
    · rw [if_neg (by omega), if_neg]
      intro hc
      have := h4 (by omega)
      have := g4 (by omega)
      omega
  | a :: b :: c :: q, _ => rfl
set_option maxRecDepth 100000 in
theorem phrase_c {l m : List Nat} (h : ExtC l m) (f : Int) : Same2 ExtC ((phraseP l).map (leafNd f)) ((phraseP m).map (leafNd f)) := by
  obtain ⟨h1, rfl⟩ := h
  have h34 : ∀ c ∈ l, (foldN c != 34) = (c != 34) := fun c hc => by
    obtain ⟨_, _, h3, h4, _⟩ := fold_near c (h1.low c hc)
    by_cases e : c = 34
    · rw [h3 (by omega)]
    · have : foldN c ≠ 34 := fun e2 => e (by have := h4 (by omega); omega)
      rw [bne_iff_ne.2 this, bne_iff_ne.2 e]
  have hm : 34 ∈ l ↔ 34 ∈ l.map foldN := by
    constructor
    · intro h; exact List.mem_map.2 ⟨34, h, (fold_near 34 (by omega)).2.2.1 (by omega)⟩
    · intro h
      obtain ⟨c, hc, e⟩ := List.mem_map.1 h
      have := (fold_near c (h1.low c hc)).2.2.2.1 (by omega)
      rw [show (34 : Nat) = c by omega]; exact hc
  unfold phraseP
  by_cases c : 34 ∈ l
  · rw [if_pos c, if_pos (hm.1 c)]
    obtain ⟨h2, h3⟩ := takeW_fold (· != 34) h34
    rw [h2, h3]
    refine ⟨(leafNd_fold f fun c hc => h1.low c (List.takeWhile_subset _ hc)).symm, h1.suffix ((List.drop_suffix _ _).trans (List.dropWhile_suffix _)), by rw [List.map_drop]⟩
  · rw [if_neg c, if_neg (fun e => c (hm.2 e))]
    rfl
set_option maxRecDepth 100000 in
theorem field_c {l m : List Nat} (h : ExtC l m) : (fieldP m).1 = (fieldP l).1 ∧ ExtC (fieldP l).2 (fieldP m).2 := by
  obtain ⟨h1, h2⟩ := h.skip
  unfold fieldP
  rw [h2]
  match hl : skipB l with
  | [] => exact ⟨rfl, by rw [hl] at h1; exact h1, rfl⟩
  | [c] => exact ⟨rfl, by rw [hl] at h1; exact h1, rfl⟩
  | c :: d :: r =>
    rw [hl] at h1
    obtain ⟨_, _, h3, h4, _⟩ := fold_near c (h1.low c (by simp))
    obtain ⟨_, _, g3, g4, _⟩ := fold_near d (h1.low d (by simp))
    simp only [List.map_cons]
    by_cases hd : d = 58
    · subst hd
      rw [g3 (by omega)]
      simp only
      by_cases hc : 48 ≤ c ∧ c < 52
      · rw [h3 (by omega), if_pos hc, if_pos hc]
        exact ⟨rfl, h1.suffix ((List.suffix_cons 58 r).trans (List.suffix_cons c _)), rfl⟩
      · rw [if_neg hc, if_neg (by intro e; have := h4 (by omega); omega)]
        exact ⟨rfl, h1, by simp only [List.map_cons]; rw [g3 (by omega)]⟩
    · have hd2 : foldN d ≠ 58 := fun e => hd (by have := g4 (by omega); omega)
      split
      · rename_i e; injection e with e1 e2; injection e2 with e2 e3; exact absurd e2 hd2
      · split
        · rename_i e; injection e with e1 e2; injection e2 with e2 e3; exact absurd e2 hd
        · exact ⟨rfl, h1, rfl⟩
set_option maxRecDepth 100000 in
theorem leaf_c (k : Nat) {l m : List Nat} (h : ExtC l m) : Same2 ExtC (leafP k l) (leafP k m) := by
  obtain ⟨h1, h2⟩ := field_c h
  have h3 := h2.skip.head 34 (by omega)
  unfold leafP
  rw [h1]
  by_cases c : headZ (skipB (fieldP l).2) = 34
  · rw [if_pos c, if_pos (h3.1 c)]
    exact phrase_c h2.skip.drop _
  · rw [if_neg c, if_neg (fun e => c (h3.2 e))]
    rcases word_c k h2 with ⟨q, l1, e1, e2, e3, e4⟩ | ⟨e, e1, e2⟩
    · rw [e1, e2]
      exact ⟨(leafNd_fold _ e4).symm, e3, rfl⟩
    · rw [e1, e2]; rfl
set_option maxRecDepth 100000 in
theorem beq_of {a b s : Int} (h : a = s ↔ b = s) : (a == s) = (b == s) := by rw [Bool.eq_iff_iff]; simpa using h
set_option maxRecDepth 100000 in
theorem like_case : Like ExtC where
  skip := ExtC.skip
  sign := fun h s hs => h.skip.head s (by simp at hs; omega)
  beg := fun h => by
    have h1 := h.skip.head 33 (by omega)
    have h2 := h.skip.head 40 (by omega)
    have h3 := h.skip.head 34 (by omega)
    have h4 := h.skip.class
    unfold beginB
    rw [h4]
    rw [beq_of h1, beq_of h2, beq_of h3]
  drop := fun h _ => h.drop
  leaf := leaf_c
  limit := fun {l m} h => by
    unfold limitP
    rcases word_c 8 h with ⟨q, l1, e1, e2, e3, e4⟩ | ⟨e, e1, e2⟩
    · rw [e1, e2]
      show Same2 ExtC (if limZ q = -1 then _ else _) (if limZ (q.map foldN) = -1 then _ else _)
      rw [limZ_fold e4]
      split
      · exact fail_c 8 ⟨e3, rfl⟩
      · exact ⟨rfl, e3, rfl⟩
    · rw [e1, e2]; rfl
  order := fun {l m} h h64 => by
    obtain ⟨h1, rfl⟩ := h
    cases l with
    | nil => cases h64
    | cons c r =>
      have h2 : c = 64 := by simp [headZ] at h64; omega
      subst h2
      have := h1.at_ 0 rfl
      cases r with
      | nil => rfl
      | cons d r => simp at this
  nil := ⟨⟨by simp, by simp⟩, rfl⟩
set_option maxRecDepth 100000 in
theorem case_alike {l : List Nat} (h : LowC l) : Alike (parseR l) (parseR (l.map foldN)) := same_alike (like_case.parse ⟨h, rfl⟩)
end Go.Proofs.YtaaeooimalglaaaDoor
