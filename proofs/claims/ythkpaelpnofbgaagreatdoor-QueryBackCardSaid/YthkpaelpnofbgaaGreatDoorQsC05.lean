/-
  Two texts that are read alike, part by part; blanks behind a text; letters folded. Without the program's text.
-/
import Derived.Test.YthkpaelpnofbgaaGreatDoorQsC04
import Derived.Test.YthkpaelpnofbgaaGreatDoorQsC03

namespace Go.Proofs.YthkpaelpnofbgaaGreatDoor

/-- What is read of two texts comes to the same. -/
def Same2 (E : List Nat → List Nat → Prop) {α : Type} : PR α → PR α → Prop
  | .ok a l, .ok b m => a = b ∧ E l m
  | .err e, .err f => e = f
  | _, _ => False
structure Like (E : List Nat → List Nat → Prop) : Prop where
  skip : ∀ {l m}, E l m → E (skipB l) (skipB m)
  sign : ∀ {l m}, E l m → ∀ s ∈ [-1, 33, 34, 35, 38, 40, 41, 64, 124], (headZ (skipB l) = s ↔ headZ (skipB m) = s)
  beg : ∀ {l m}, E l m → beginB (headZ (skipB l)) = beginB (headZ (skipB m))
  drop : ∀ {l m}, E l m → headZ l ≠ -1 → E (l.drop 1) (m.drop 1)
  leaf : ∀ (k : Nat) {l m}, E l m → Same2 E (leafP k l) (leafP k m)
  limit : ∀ {l m}, E l m → Same2 E (limitP l) (limitP m)
  order : ∀ {l m}, E l m → headZ l = 64 → Same2 E (orderP (l.drop 1)) (orderP (m.drop 1))
  nil : E [] []
section
variable {E : List Nat → List Nat → Prop}
set_option maxRecDepth 100000 in
theorem same_bind {α β : Type} {x y : PR α} {f g : α → List Nat → PR β} (h : Same2 E x y) (hf : ∀ a l m, x = .ok a l → y = .ok a m → E l m → Same2 E (f a l) (g a m)) : Same2 E (x.bind f) (y.bind g) := by
  cases x with
  | ok a l =>
    cases y with
    | ok b m => obtain ⟨rfl, h2⟩ := h; exact hf a l m rfl rfl h2
    | err e => exact h.elim
  | err e =>
    cases y with
    | ok b m => exact h.elim
    | err f => exact h
set_option maxRecDepth 100000 in
theorem same_map {α β : Type} {x y : PR α} {f : α → β} (h : Same2 E x y) : Same2 E (x.map f) (y.map f) := same_bind h fun _ _ _ _ _ h => ⟨rfl, h⟩
set_option maxRecDepth 100000 in
theorem Like.fail (L : Like E) (k : Nat) {l m : List Nat} (h : E l m) : failE k l = failE k m := by
  have h1 := L.sign h 40 (by decide)
  have h2 := L.sign h 33 (by decide)
  unfold failE
  simp only [h1, h2]
set_option maxRecDepth 100000 in
theorem Like.and (L : Like E) (k : Nat) (hn : ∀ l m, E l m → Same2 E (notP k l) (notP k m)) : ∀ (n : Nat) (ps : List Nd) (l m : List Nat), l.length ≤ n → E l m → Same2 E (andR k ps l) (andR k ps m)
  | n, ps, l, m, hl, h => by
    have h1 := L.sign h 38 (by decide)
    have h3 := L.beg h
    have hs := skipB_le l
    rw [andR_step, andR_step]
    by_cases c1 : headZ (skipB l) = 38
    · rw [if_pos c1, if_pos (h1.1 c1)]
      refine same_bind (hn _ _ (L.drop (L.skip h) (by omega))) fun a l1 m1 e1 _ h2 => ?_
      have h4 := not_less k _ _ _ e1
      have := List.length_drop (i := 1) (l := skipB l)
      match n, hl with
      | 0, hl => omega
      | n + 1, hl => exact L.and k hn n _ _ _ (by omega) h2
    · rw [if_neg c1, if_neg (fun e => c1 (h1.2 e))]
      by_cases c2 : beginB (headZ (skipB l)) = true
      · rw [if_pos c2, if_pos (h3 ▸ c2)]
        refine same_bind (hn _ _ (L.skip h)) fun a l1 m1 e1 _ h2 => ?_
        have h4 := not_less k _ _ _ e1
        match n, hl with
        | 0, hl => omega
        | n + 1, hl => exact L.and k hn n _ _ _ (by omega) h2
      · rw [if_neg c2, if_neg (h3 ▸ c2)]
        exact ⟨rfl, L.skip h⟩
set_option maxRecDepth 100000 in
theorem Like.and_p (L : Like E) (k : Nat) (hn : ∀ l m, E l m → Same2 E (notP k l) (notP k m)) {l m : List Nat} (h : E l m) : Same2 E (andP (notP k) l) (andP (notP k) m) := by
  rw [andP_eq, andP_eq]
  exact same_bind (hn _ _ h) fun a l1 m1 _ _ h2 => L.and k hn _ _ _ _ (Nat.le_refl _) h2
set_option maxRecDepth 100000 in
theorem Like.or (L : Like E) (k : Nat) (hn : ∀ l m, E l m → Same2 E (notP k l) (notP k m)) : ∀ (n : Nat) (ps : List Nd) (l m : List Nat), l.length ≤ n → E l m → Same2 E (orR k ps l) (orR k ps m)
  | n, ps, l, m, hl, h => by
    have h1 := L.sign h 124 (by decide)
    have hs := skipB_le l
    rw [orR_step, orR_step]
    by_cases c1 : headZ (skipB l) = 124
    · rw [if_pos c1, if_pos (h1.1 c1)]
      refine same_bind (L.and_p k hn (L.drop (L.skip h) (by omega))) fun a l1 m1 e1 _ h2 => ?_
      have h4 := and_less (not_less k) _ _ _ e1
      have := List.length_drop (i := 1) (l := skipB l)
      match n, hl with
      | 0, hl => omega
      | n + 1, hl => exact L.or k hn n _ _ _ (by omega) h2
    · rw [if_neg c1, if_neg (fun e => c1 (h1.2 e))]
      exact ⟨rfl, L.skip h⟩
set_option maxRecDepth 100000 in
theorem Like.or_p (L : Like E) (k : Nat) (hn : ∀ l m, E l m → Same2 E (notP k l) (notP k m)) {l m : List Nat} (h : E l m) : Same2 E (orP (andP (notP k)) l) (orP (andP (notP k)) m) := by
  rw [orP_eq, orP_eq]
  exact same_bind (L.and_p k hn h) fun a l1 m1 _ _ h2 => L.or k hn _ _ _ _ (Nat.le_refl _) h2
set_option maxRecDepth 100000 in
theorem Like.not (L : Like E) : ∀ (k : Nat) (l m : List Nat), E l m → Same2 E (notP k l) (notP k m)
  | 0, l, m, h => by
    have h1 := L.sign h 33 (by decide)
    have h2 := L.sign h 40 (by decide)
    rw [notP, notP]
    by_cases c1 : headZ (skipB l) = 33 ∨ headZ (skipB l) = 40
    · rw [if_pos c1, if_pos (by rwa [← h1, ← h2])]
      rfl
    · rw [if_neg c1, if_neg (by rwa [← h1, ← h2])]
      exact L.leaf 0 (L.skip h)
  | k + 1, l, m, h => by
    have h1 := L.sign h 33 (by decide)
    have h2 := L.sign h 40 (by decide)
    rw [notP, notP]
    by_cases c1 : headZ (skipB l) = 33
    · rw [if_pos c1, if_pos (h1.1 c1)]
      exact same_map (L.not k _ _ (L.drop (L.skip h) (by omega)))
    · rw [if_neg c1, if_neg (fun e => c1 (h1.2 e))]
      by_cases c2 : headZ (skipB l) = 40
      · rw [if_pos c2, if_pos (h2.1 c2)]
        refine same_bind (L.or_p k (L.not k) (L.drop (L.skip h) (by omega))) fun a l1 m1 _ _ h3 => ?_
        have h4 := L.sign h3 41 (by decide)
        by_cases c3 : headZ (skipB l1) = 41
        · rw [if_pos c3, if_pos (h4.1 c3)]
          exact ⟨rfl, L.drop (L.skip h3) (by omega)⟩
        · rw [if_neg c3, if_neg (fun e => c3 (h4.2 e))]
          exact L.fail k (L.skip h3)
      · rw [if_neg c2, if_neg (fun e => c2 (h2.2 e))]
        exact L.leaf (k + 1) (L.skip h)
set_option maxRecDepth 100000 in
theorem Like.opt (L : Like E) : ∀ (n : Nat) (o : Opt) (l m : List Nat), l.length ≤ n → E l m → Same2 E (optR o l) (optR o m)
  | n, o, l, m, hl, h => by
    have h1 := L.sign h 35 (by decide)
    have h2 := L.sign h 64 (by decide)
    have h3 := L.sign h (-1) (by decide)
    have hs := skipB_le l
    rw [optR_step, optR_step]
    by_cases c1 : headZ (skipB l) = 35 ∧ o.limd = false
    · rw [if_pos c1, if_pos (show headZ (skipB m) = 35 ∧ o.limd = false by rwa [← h1])]
      refine same_bind (L.limit (L.drop (L.skip h) (by omega))) fun a l1 m1 e1 _ h4 => ?_
      have := limit_less _ _ _ e1
      have := List.length_drop (i := 1) (l := skipB l)
      match n, hl with
      | 0, hl => omega
      | n + 1, hl => exact L.opt n _ _ _ (by omega) h4
    · rw [if_neg c1, if_neg (show ¬ (headZ (skipB m) = 35 ∧ o.limd = false) by rwa [← h1])]
      by_cases c2 : headZ (skipB l) = 64 ∧ o.ordd = false
      · rw [if_pos c2, if_pos (show headZ (skipB m) = 64 ∧ o.ordd = false by rwa [← h2])]
        refine same_bind (L.order (L.skip h) c2.1) fun a l1 m1 e1 _ h4 => ?_
        have := order_less _ _ _ e1
        have := List.length_drop (i := 1) (l := skipB l)
        match n, hl with
        | 0, hl => omega
        | n + 1, hl => exact L.opt n _ _ _ (by omega) h4
      · rw [if_neg c2, if_neg (show ¬ (headZ (skipB m) = 64 ∧ o.ordd = false) by rwa [← h2])]
        by_cases c3 : headZ (skipB l) = -1
        · rw [if_pos c3, if_pos (h3.1 c3)]
          exact ⟨rfl, L.nil⟩
        · rw [if_neg c3, if_neg (fun e => c3 (h3.2 e))]
          exact L.fail 8 (L.skip h)
set_option maxRecDepth 100000 in
theorem Like.parse (L : Like E) {l m : List Nat} (h : E l m) : Same2 E (parseR l) (parseR m) := by
  rw [parseR_eq, parseR_eq]
  exact same_bind (L.or_p 8 (L.not 8) h) fun a l1 m1 _ _ h2 => same_map (L.opt _ _ _ _ (Nat.le_refl _) h2)
end

/-! ### Blanks behind a text -/
def Bl (B : List Nat) : Prop := ∀ c ∈ B, blankB c = true
def ExtB (l m : List Nat) : Prop := ∃ B, Bl B ∧ m = l ++ B
set_option maxRecDepth 100000 in
theorem blank_let : ∀ c : Nat, blankB c = true → letB c = false ∧ c ≠ 34 ∧ c ≠ 58 := by
  intro c h
  have : c = 32 ∨ c = 9 ∨ c = 10 ∨ c = 13 := by unfold blankB at h; simp at h; omega
  rcases this with rfl | rfl | rfl | rfl <;> decide +kernel
set_option maxRecDepth 100000 in
theorem skip_all : ∀ {B : List Nat}, Bl B → skipB B = []
  | [], _ => rfl
  | c :: B, h => by
    rw [skipB, if_pos (h c (by simp))]
    exact skip_all fun x hx => h x (by simp [hx])
set_option maxRecDepth 100000 in
theorem skip_ext {B : List Nat} (hB : Bl B) : ∀ l : List Nat, (skipB l = [] ∧ skipB (l ++ B) = []) ∨ (skipB l ≠ [] ∧ skipB (l ++ B) = skipB l ++ B)
  | [] => .inl ⟨rfl, skip_all hB⟩
  | c :: l => by
    rw [List.cons_append, skipB, skipB]
    split
    · exact skip_ext hB l
    · exact .inr ⟨by simp, rfl⟩
set_option maxRecDepth 100000 in
theorem head_ext {l m : List Nat} (h : ExtB l m) : headZ (skipB m) = headZ (skipB l) := by
  obtain ⟨B, hB, rfl⟩ := h
  rcases skip_ext hB l with ⟨h1, h2⟩ | ⟨h1, h2⟩
  · rw [h1, h2]
  · rw [h2]
    cases hs : skipB l with
    | nil => exact absurd hs h1
    | cons c r => rfl
set_option maxRecDepth 100000 in
theorem ExtB.skip {l m : List Nat} (h : ExtB l m) : ExtB (skipB l) (skipB m) := by
  obtain ⟨B, hB, rfl⟩ := h
  rcases skip_ext hB l with ⟨h1, h2⟩ | ⟨h1, h2⟩
  · rw [h1, h2]; exact ⟨[], by simp [Bl], rfl⟩
  · exact ⟨B, hB, h2⟩
set_option maxRecDepth 100000 in
theorem ExtB.drop {l m : List Nat} (h : ExtB l m) (hl : headZ l ≠ -1) : ExtB (l.drop 1) (m.drop 1) := by
  obtain ⟨B, hB, rfl⟩ := h
  cases l with
  | nil => exact absurd rfl hl
  | cons c r => exact ⟨B, hB, rfl⟩
set_option maxRecDepth 100000 in
theorem takeW_ext (p : Nat → Bool) {B : List Nat} (hB : ∀ c ∈ B, p c = false) : ∀ l : List Nat, (l ++ B).takeWhile p = l.takeWhile p ∧ (l ++ B).dropWhile p = l.dropWhile p ++ B
  | [] => by
    cases B with
    | nil => exact ⟨rfl, rfl⟩
    | cons c B =>
      have := hB c (by simp)
      simp [this]
  | c :: l => by
    obtain ⟨h1, h2⟩ := takeW_ext p hB l
    rw [List.cons_append, List.takeWhile_cons, List.takeWhile_cons, List.dropWhile_cons, List.dropWhile_cons]
    split
    · exact ⟨by rw [h1], h2⟩
    · exact ⟨rfl, rfl⟩
set_option maxRecDepth 100000 in
theorem fail_ext (k : Nat) {l m : List Nat} (h : ExtB l m) : failE k l = failE k m := by unfold failE; rw [head_ext h]
set_option maxRecDepth 100000 in
theorem word_ext (k : Nat) {l m : List Nat} (h : ExtB l m) : Same2 ExtB (wordP k l) (wordP k m) := by
  have hh := head_ext h
  have hs := h.skip
  unfold wordP
  rw [hh]
  split
  · exact fail_ext k hs
  · obtain ⟨B, hB, e⟩ := hs
    rw [e]
    obtain ⟨h1, h2⟩ := takeW_ext letB (fun c hc => (blank_let c (hB c hc)).1) (skipB l)
    exact ⟨h1.symm, B, hB, h2⟩
set_option maxRecDepth 100000 in
theorem phrase_ext {l m : List Nat} (h : ExtB l m) : Same2 ExtB (phraseP l) (phraseP m) := by
  obtain ⟨B, hB, rfl⟩ := h
  have hB2 : 34 ∉ B := fun h34 => (blank_let 34 (hB 34 h34)).2.1 rfl
  unfold phraseP
  by_cases c : 34 ∈ l
  · rw [if_pos c, if_pos (List.mem_append_left _ c)]
    have : ∀ l : List Nat, 34 ∈ l → (l ++ B).takeWhile (· != 34) = l.takeWhile (· != 34) ∧ ((l ++ B).dropWhile (· != 34)).drop 1 = (l.dropWhile (· != 34)).drop 1 ++ B := by
      intro l
      induction l with
      | nil => intro h; simp at h
      | cons c r ih =>
        intro hc
        rw [List.cons_append, List.takeWhile_cons, List.takeWhile_cons, List.dropWhile_cons, List.dropWhile_cons]
        by_cases h34 : c = 34
        · subst h34; simp
        · have hr : 34 ∈ r := by
            rcases List.mem_cons.1 hc with h | h
            · exact absurd h.symm h34
            · exact h
          rw [if_pos (by simpa using h34), if_pos (by simpa using h34), if_pos (by simpa using h34), if_pos (by simpa using h34)]
          exact ⟨by rw [(ih hr).1], (ih hr).2⟩
    obtain ⟨h1, h2⟩ := this l c
    exact ⟨h1.symm, B, hB, h2⟩
  · rw [if_neg c, if_neg (by simp [c, hB2])]
    rfl
set_option maxRecDepth 100000 in
theorem field_ext {l m : List Nat} (h : ExtB l m) : (fieldP m).1 = (fieldP l).1 ∧ ExtB (fieldP l).2 (fieldP m).2 := by
  have hs := h.skip
  obtain ⟨B, hB, e⟩ := hs
  unfold fieldP
  rw [e]
  match hl : skipB l with
  | [] =>
    match B, hB with
    | [], hB => exact ⟨rfl, [], hB, rfl⟩
    | [b], hB => exact ⟨rfl, [b], hB, rfl⟩
    | b :: b2 :: B, hB =>
      have := (blank_let b2 (hB b2 (by simp))).2.2
      simp only [List.nil_append]
      split
      · rename_i h1; injection h1 with h1 h2; injection h2 with h2 h3; exact absurd h2 this
      · exact ⟨rfl, b :: b2 :: B, hB, rfl⟩
  | [c] =>
    match B, hB with
    | [], hB => exact ⟨rfl, [], hB, rfl⟩
    | b :: B, hB =>
      have := (blank_let b (hB b (by simp))).2.2
      simp only [List.singleton_append]
      split
      · rename_i h1; injection h1 with h1 h2; injection h2 with h2 h3; exact absurd h2 this
      · exact ⟨rfl, b :: B, hB, rfl⟩
  | c :: d :: r =>
    simp only [List.cons_append]
    by_cases hd : d = 58
    · subst hd
      simp only
      split
      · exact ⟨rfl, B, hB, rfl⟩
      · exact ⟨rfl, B, hB, rfl⟩
    · split
      · rename_i h1; injection h1 with h1 h2; injection h2 with h2 h3; exact absurd h2 hd
      · split
        · rename_i h1; injection h1 with h1 h2; injection h2 with h2 h3; exact absurd h2 hd
        · exact ⟨rfl, B, hB, rfl⟩
set_option maxRecDepth 100000 in
theorem leaf_ext (k : Nat) {l m : List Nat} (h : ExtB l m) : Same2 ExtB (leafP k l) (leafP k m) := by
  obtain ⟨h1, h2⟩ := field_ext h
  unfold leafP
  rw [h1, head_ext h2]
  split
  · exact same_map (phrase_ext (h2.skip.drop (by omega)))
  · exact same_map (word_ext k h2)
set_option maxRecDepth 100000 in
theorem like_blank : Like ExtB where
  skip := ExtB.skip
  sign := fun h s _ => by rw [head_ext h]
  beg := fun h => by rw [head_ext h]
  drop := ExtB.drop
  leaf := leaf_ext
  limit := fun h => by
    unfold limitP
    refine same_bind (word_ext 8 h) fun a l m _ _ h2 => ?_
    split
    · exact fail_ext 8 h2
    · exact ⟨rfl, h2⟩
  order := fun h h64 => by
    unfold orderP
    refine same_bind (word_ext 8 (h.drop (by omega))) fun a l m _ _ h2 => ?_
    split
    · exact ⟨rfl, h2⟩
    · split
      · exact ⟨rfl, h2⟩
      · exact fail_ext 8 h2
  nil := ⟨[], by simp [Bl], rfl⟩
set_option maxRecDepth 100000 in
/-- Blanks ahead. -/
theorem skip_ahead {A : List Nat} (hA : Bl A) (l : List Nat) : skipB (A ++ l) = skipB l := by
  induction A with
  | nil => rfl
  | cons c A ih =>
    rw [List.cons_append, skipB, if_pos (hA c (by simp))]
    exact ih fun x hx => hA x (by simp [hx])
set_option maxRecDepth 100000 in
theorem leafP_skip (k : Nat) (l : List Nat) : leafP k (skipB l) = leafP k l := by
  have : fieldP (skipB l) = fieldP l := by unfold fieldP; rw [skipB_skip]
  unfold leafP
  rw [this]
set_option maxRecDepth 100000 in
theorem notP_skip (k : Nat) (l : List Nat) : notP k (skipB l) = notP k l := by
  cases k with
  | zero => rw [notP, notP, skipB_skip]
  | succ k => rw [notP, notP, skipB_skip]
set_option maxRecDepth 100000 in
theorem andP_skip (k : Nat) (l : List Nat) : andP (notP k) (skipB l) = andP (notP k) l := by rw [andP_eq, andP_eq, notP_skip]
set_option maxRecDepth 100000 in
theorem orP_skip (k : Nat) (l : List Nat) : orP (andP (notP k)) (skipB l) = orP (andP (notP k)) l := by rw [orP_eq, orP_eq, andP_skip]
set_option maxRecDepth 100000 in
theorem parse_skip (l : List Nat) : parseR (skipB l) = parseR l := by rw [parseR_eq, parseR_eq, orP_skip]
/-- What a text comes to, be it a tree or an error. -/
def Alike {α : Type} (x y : PR α) : Prop := Same2 (fun _ _ => True) x y
set_option maxRecDepth 100000 in
theorem same_alike {E : List Nat → List Nat → Prop} {α : Type} {x y : PR α} (h : Same2 E x y) : Alike x y := by
  cases x with
  | ok a l =>
    cases y with
    | ok b m => exact ⟨h.1, trivial⟩
    | err e => exact h
  | err e =>
    cases y with
    | ok b m => exact h
    | err f => exact h
set_option maxRecDepth 100000 in
theorem blanks_alike {A B : List Nat} (hA : Bl A) (hB : Bl B) (l : List Nat) : Alike (parseR l) (parseR (A ++ l ++ B)) := by
  have h1 : parseR (A ++ (l ++ B)) = parseR (l ++ B) := by rw [← parse_skip, skip_ahead hA, parse_skip]
  rw [List.append_assoc, h1]
  exact same_alike (like_blank.parse ⟨B, hB, rfl⟩)

/-! ### Case -/
structure LowC (l : List Nat) : Prop where
  low : ∀ c ∈ l, c < 128
  at_ : ∀ i, l[i]? = some 64 → l.length = i + 1
set_option maxRecDepth 100000 in
theorem LowC.suffix {l m : List Nat} (h : LowC l) (hs : m <:+ l) : LowC m := by
  obtain ⟨p, rfl⟩ := hs
  refine ⟨fun c hc => h.low c (by simp [hc]), fun i hi => ?_⟩
  have := h.at_ (p.length + i) (by rw [List.getElem?_append_right (by omega)]; simpa using hi)
  rw [List.length_append] at this
  omega
def ExtC (l m : List Nat) : Prop := LowC l ∧ m = l.map foldN
set_option maxRecDepth 100000 in
theorem fold_near : ∀ c : Nat, c < 128 → foldN c < 128 ∧ blankB (foldN c) = blankB c ∧ (c < 65 → foldN c = c) ∧ (foldN c < 65 → foldN c = c) ∧ (foldN c = 124 → c = 124) ∧ (c = 124 → foldN c = 124) ∧ classZ ((foldN c : Nat) : Int) = classZ (c : Int) := by decide +kernel
set_option maxRecDepth 100000 in
theorem skip_suffix : ∀ l : List Nat, skipB l <:+ l
  | [] => List.suffix_refl _
  | c :: l => by
    rw [skipB]
    split
    · exact (skip_suffix l).trans (List.suffix_cons c l)
    · exact List.suffix_refl _
set_option maxRecDepth 100000 in
theorem skip_fold : ∀ {l : List Nat}, (∀ c ∈ l, c < 128) → skipB (l.map foldN) = (skipB l).map foldN
  | [], _ => rfl
  | c :: l, h => by
    have hc := fold_near c (h c (by simp))
    rw [List.map_cons, skipB, skipB, hc.2.1]
    split
    · exact skip_fold fun x hx => h x (by simp [hx])
    · rfl
set_option maxRecDepth 100000 in
theorem headZ_fold {l : List Nat} (h : ∀ c ∈ l, c < 128) (s : Int) (hs : s < 65 ∨ s = 124) : headZ l = s ↔ headZ (l.map foldN) = s := by
  cases l with
  | nil => exact Iff.rfl
  | cons c l =>
    obtain ⟨_, _, h3, h4, h5, h6, _⟩ := fold_near c (h c (by simp))
    simp only [List.map_cons, headZ]
    constructor
    · intro e
      rcases hs with hs | hs
      · rw [h3 (by omega)]; exact e
      · have := h6 (by omega); omega
    · intro e
      rcases hs with hs | hs
      · rw [← h4 (by omega)]; exact e
      · have := h5 (by omega); omega
set_option maxRecDepth 100000 in
theorem class_fold {l : List Nat} (h : ∀ c ∈ l, c < 128) : classZ (headZ (l.map foldN)) = classZ (headZ l) := by
  cases l with
  | nil => rfl
  | cons c l => exact (fold_near c (h c (by simp))).2.2.2.2.2.2
set_option maxRecDepth 100000 in
theorem ExtC.skip {l m : List Nat} (h : ExtC l m) : ExtC (skipB l) (skipB m) := by
  obtain ⟨h1, rfl⟩ := h
  exact ⟨h1.suffix (skip_suffix l), skip_fold h1.low⟩
set_option maxRecDepth 100000 in
theorem ExtC.head {l m : List Nat} (h : ExtC l m) (s : Int) (hs : s < 65 ∨ s = 124) : headZ l = s ↔ headZ m = s := by
  obtain ⟨h1, rfl⟩ := h
  exact headZ_fold h1.low s hs
set_option maxRecDepth 100000 in
theorem ExtC.class {l m : List Nat} (h : ExtC l m) : classZ (headZ m) = classZ (headZ l) := by
  obtain ⟨h1, rfl⟩ := h
  exact class_fold h1.low
set_option maxRecDepth 100000 in
theorem ExtC.drop {l m : List Nat} (h : ExtC l m) : ExtC (l.drop 1) (m.drop 1) := by
  obtain ⟨h1, rfl⟩ := h
  exact ⟨h1.suffix (List.drop_suffix _ _), by rw [List.map_drop]⟩
set_option maxRecDepth 100000 in
theorem takeW_fold (p : Nat → Bool) : ∀ {l : List Nat}, (∀ c ∈ l, p (foldN c) = p c) → (l.map foldN).takeWhile p = (l.takeWhile p).map foldN ∧ (l.map foldN).dropWhile p = (l.dropWhile p).map foldN
  | [], _ => ⟨rfl, rfl⟩
  | c :: l, h => by
    obtain ⟨h1, h2⟩ := takeW_fold p (l := l) fun x hx => h x (by simp [hx])
    rw [List.map_cons, List.takeWhile_cons, List.takeWhile_cons, List.dropWhile_cons, List.dropWhile_cons, h c (by simp)]
    split
    · exact ⟨by rw [h1]; rfl, h2⟩
    · exact ⟨rfl, rfl⟩
set_option maxRecDepth 100000 in
theorem fail_c (k : Nat) {l m : List Nat} (h : ExtC l m) : failE k l = failE k m := by
  have h1 := h.skip.head 40 (by omega)
  have h2 := h.skip.head 33 (by omega)
  unfold failE
  simp only [h1, h2]
set_option maxRecDepth 100000 in
/-- Words that are the same but for case. -/
theorem word_c (k : Nat) {l m : List Nat} (h : ExtC l m) : (∃ q l1, wordP k l = .ok q l1 ∧ wordP k m = .ok (q.map foldN) (l1.map foldN) ∧ LowC l1 ∧ ∀ c ∈ q, c < 128) ∨ (∃ e, wordP k l = .err e ∧ wordP k m = .err e) := by
  have hs := h.skip
  have hc := hs.class
  unfold wordP
  rw [hc]
  split
  · exact .inr ⟨_, rfl, by rw [fail_c k hs]⟩
  · obtain ⟨h1, h2⟩ := hs
    obtain ⟨h3, h4⟩ := takeW_fold letB (l := skipB l) fun c hc => by
      have := (fold_near c (h1.low c hc)).2.2.2.2.2.2
      unfold letB
      rw [this]
    refine .inl ⟨_, _, rfl, by rw [h2, h3, h4], h1.suffix (List.dropWhile_suffix _), fun c hc => h1.low c (List.takeWhile_subset _ hc)⟩
set_option maxRecDepth 100000 in
theorem ok_low {c : Nat} (h : c < 128) : okR c := by unfold okR; omega
set_option maxRecDepth 100000 in
theorem leafNd_fold (f : Int) {q : List Nat} (h : ∀ c ∈ q, c < 128) : leafNd f (q.map foldN) = leafNd f q := by
  unfold leafNd wordsR
  rw [allR_fold q fun c hc => ok_low (h c hc)]
set_option maxRecDepth 100000 in
theorem limZ_fold {q : List Nat} (h : ∀ c ∈ q, c < 128) : limZ (q.map foldN) = limZ q := by
  match q, h with
  | [], _ => rfl
  | [a], h =>
    obtain ⟨_, _, h3, h4, _⟩ := fold_near a (h a (by simp))
    simp only [List.map_cons, List.map_nil, limZ]
    by_cases c : a < 65
    · rw [h3 c]
    · rw [if_neg (by omega), if_neg]
      intro hc
      have := h4 (by omega)
      omega
  | [a, b], h =>
    obtain ⟨_, _, h3, h4, _⟩ := fold_near a (h a (by simp))
    obtain ⟨_, _, g3, g4, _⟩ := fold_near b (h b (by simp))
    simp only [List.map_cons, List.map_nil, limZ]
    by_cases c : a < 65 ∧ b < 65
    · rw [h3 c.1, g3 c.2]
    · rw [if_neg (by omega), if_neg]
      intro hc
      have := h4 (by omega)
      have := g4 (by omega)
      omega
  | a :: b :: c :: q, _ => rfl
set_option maxRecDepth 100000 in
theorem phrase_c {l m : List Nat} (h : ExtC l m) (f : Int) : Same2 ExtC ((phraseP l).map (leafNd f)) ((phraseP m).map (leafNd f)) := by
  obtain ⟨h1, rfl⟩ := h
  have h34 : ∀ c ∈ l, (foldN c != 34) = (c != 34) := fun c hc => by
    obtain ⟨_, _, h3, h4, _⟩ := fold_near c (h1.low c hc)
    by_cases e : c = 34
    · rw [h3 (by omega)]
    · have : foldN c ≠ 34 := fun e2 => e (by have := h4 (by omega); omega)
      rw [bne_iff_ne.2 this, bne_iff_ne.2 e]
  have hm : 34 ∈ l ↔ 34 ∈ l.map foldN := by
    constructor
    · intro h; exact List.mem_map.2 ⟨34, h, (fold_near 34 (by omega)).2.2.1 (by omega)⟩
    · intro h
      obtain ⟨c, hc, e⟩ := List.mem_map.1 h
      have := (fold_near c (h1.low c hc)).2.2.2.1 (by omega)
      rw [show (34 : Nat) = c by omega]; exact hc
  unfold phraseP
  by_cases c : 34 ∈ l
  · rw [if_pos c, if_pos (hm.1 c)]
    obtain ⟨h2, h3⟩ := takeW_fold (· != 34) h34
    rw [h2, h3]
    refine ⟨(leafNd_fold f fun c hc => h1.low c (List.takeWhile_subset _ hc)).symm, h1.suffix ((List.drop_suffix _ _).trans (List.dropWhile_suffix _)), by rw [List.map_drop]⟩
  · rw [if_neg c, if_neg (fun e => c (hm.2 e))]
    rfl
set_option maxRecDepth 100000 in
theorem field_c {l m : List Nat} (h : ExtC l m) : (fieldP m).1 = (fieldP l).1 ∧ ExtC (fieldP l).2 (fieldP m).2 := by
  obtain ⟨h1, h2⟩ := h.skip
  unfold fieldP
  rw [h2]
  match hl : skipB l with
  | [] => exact ⟨rfl, by rw [hl] at h1; exact h1, rfl⟩
  | [c] => exact ⟨rfl, by rw [hl] at h1; exact h1, rfl⟩
  | c :: d :: r =>
    rw [hl] at h1
    obtain ⟨_, _, h3, h4, _⟩ := fold_near c (h1.low c (by simp))
    obtain ⟨_, _, g3, g4, _⟩ := fold_near d (h1.low d (by simp))
    simp only [List.map_cons]
    by_cases hd : d = 58
    · subst hd
      rw [g3 (by omega)]
      simp only
      by_cases hc : 48 ≤ c ∧ c < 52
      · rw [h3 (by omega), if_pos hc, if_pos hc]
        exact ⟨rfl, h1.suffix ((List.suffix_cons 58 r).trans (List.suffix_cons c _)), rfl⟩
      · rw [if_neg hc, if_neg (by intro e; have := h4 (by omega); omega)]
        exact ⟨rfl, h1, by simp only [List.map_cons]; rw [g3 (by omega)]⟩
    · have hd2 : foldN d ≠ 58 := fun e => hd (by have := g4 (by omega); omega)
      split
      · rename_i e; injection e with e1 e2; injection e2 with e2 e3; exact absurd e2 hd2
      · split
        · rename_i e; injection e with e1 e2; injection e2 with e2 e3; exact absurd e2 hd
        · exact ⟨rfl, h1, rfl⟩
set_option maxRecDepth 100000 in
theorem leaf_c (k : Nat) {l m : List Nat} (h : ExtC l m) : Same2 ExtC (leafP k l) (leafP k m) := by
  obtain ⟨h1, h2⟩ := field_c h
  have h3 := h2.skip.head 34 (by omega)
  unfold leafP
  rw [h1]
  by_cases c : headZ (skipB (fieldP l).2) = 34
  · rw [if_pos c, if_pos (h3.1 c)]
    exact phrase_c h2.skip.drop _
  · rw [if_neg c, if_neg (fun e => c (h3.2 e))]
    rcases word_c k h2 with ⟨q, l1, e1, e2, e3, e4⟩ | ⟨e, e1, e2⟩
    · rw [e1, e2]
      exact ⟨(leafNd_fold _ e4).symm, e3, rfl⟩
    · rw [e1, e2]; rfl
set_option maxRecDepth 100000 in
theorem beq_of {a b s : Int} (h : a = s ↔ b = s) : (a == s) = (b == s) := by rw [Bool.eq_iff_iff]; simpa using h
set_option maxRecDepth 100000 in
theorem like_case : Like ExtC where
  skip := ExtC.skip
  sign := fun h s hs => h.skip.head s (by simp at hs; omega)
  beg := fun h => by
    have h1 := h.skip.head 33 (by omega)
    have h2 := h.skip.head 40 (by omega)
    have h3 := h.skip.head 34 (by omega)
    have h4 := h.skip.class
    unfold beginB
    rw [h4]
    rw [beq_of h1, beq_of h2, beq_of h3]
  drop := fun h _ => h.drop
  leaf := leaf_c
  limit := fun {l m} h => by
    unfold limitP
    rcases word_c 8 h with ⟨q, l1, e1, e2, e3, e4⟩ | ⟨e, e1, e2⟩
    · rw [e1, e2]
      show Same2 ExtC (if limZ q = -1 then _ else _) (if limZ (q.map foldN) = -1 then _ else _)
      rw [limZ_fold e4]
      split
      · exact fail_c 8 ⟨e3, rfl⟩
      · exact ⟨rfl, e3, rfl⟩
    · rw [e1, e2]; rfl
  order := fun {l m} h h64 => by
    obtain ⟨h1, rfl⟩ := h
    cases l with
    | nil => cases h64
    | cons c r =>
      have h2 : c = 64 := by simp [headZ] at h64; omega
      subst h2
      have := h1.at_ 0 rfl
      cases r with
      | nil => rfl
      | cons d r => simp at this
  nil := ⟨⟨by simp, by simp⟩, rfl⟩
set_option maxRecDepth 100000 in
theorem case_alike {l : List Nat} (h : LowC l) : Alike (parseR l) (parseR (l.map foldN)) := same_alike (like_case.parse ⟨h, rfl⟩)
end Go.Proofs.YthkpaelpnofbgaaGreatDoor
/-
  A text's words by way of its runs of letters and digits, without the program's text: the runs, each one's term, and that these are the words as the chapter takes them.
-/
namespace Go.Proofs.YthkpaelpnofbgaaGreatDoor

/-- The runs of letters and digits; c is the open one. -/
def cutA (c : List Nat) : List Nat → List (List Nat)
  | [] => if c = [] then [] else [c]
  | r :: l => if classZ (r : Int) = 0 then (if c = [] then cutA [] l else c :: cutA [] l) else cutA (c ++ [r]) l
def cutL (l : List Nat) : List (List Nat) := cutA [] l
def lettersP (c : List Nat) : Prop := ∀ r ∈ c, classZ (r : Int) ≠ 0
set_option maxRecDepth 100000 in
theorem cutA_nil (c : List Nat) : cutA c [] = if c = [] then [] else [c] := rfl
set_option maxRecDepth 100000 in
theorem cutA_cons (c l : List Nat) (r : Nat) : cutA c (r :: l) = if classZ (r : Int) = 0 then (if c = [] then cutA [] l else c :: cutA [] l) else cutA (c ++ [r]) l := rfl
set_option maxRecDepth 100000 in
theorem letters_snoc {c : List Nat} {r : Nat} (h : lettersP c) (hr : classZ (r : Int) ≠ 0) : lettersP (c ++ [r]) := by
  intro x hx
  rcases List.mem_append.1 hx with hx | hx
  · exact h x hx
  · simp at hx; subst hx; exact hr
set_option maxRecDepth 100000 in
theorem cutA_are : ∀ (l c : List Nat), lettersP c → ∀ q ∈ cutA c l, q ≠ [] ∧ lettersP q ∧ ∀ x ∈ q, x ∈ c ∨ x ∈ l
  | [], c, h, q, hq => by
    rw [cutA_nil] at hq
    split at hq
    · simp at hq
    · simp at hq; subst hq; exact ⟨by assumption, h, fun x hx => .inl hx⟩
  | r :: l, c, h, q, hq => by
    rw [cutA_cons] at hq
    split at hq
    · split at hq
      · have := cutA_are l [] (by simp [lettersP]) q hq
        exact ⟨this.1, this.2.1, fun x hx => by have := this.2.2 x hx; simp at this; simp [this]⟩
      · rcases List.mem_cons.1 hq with rfl | hq
        · exact ⟨by assumption, h, fun x hx => .inl hx⟩
        · have := cutA_are l [] (by simp [lettersP]) q hq
          exact ⟨this.1, this.2.1, fun x hx => by have := this.2.2 x hx; simp at this; simp [this]⟩
    · have := cutA_are l (c ++ [r]) (letters_snoc h (by assumption)) q hq
      refine ⟨this.1, this.2.1, fun x hx => ?_⟩
      have := this.2.2 x hx
      simp at this ⊢
      rcases this with (h | h) | h
      · exact .inl h
      · exact .inr (.inl h)
      · exact .inr (.inr h)
set_option maxRecDepth 100000 in
theorem cutA_le : ∀ (l c : List Nat), (cutA c l).length ≤ l.length + 1
  | [], c => by rw [cutA_nil]; split <;> simp
  | r :: l, c => by
    rw [cutA_cons]
    have h1 := cutA_le l []
    have h2 := cutA_le l (c ++ [r])
    split
    · split <;> simp <;> omega
    · simp; omega

/-! ### Each run's term -/
def termB (q : List Nat) : List Nat := (tokRun tok0 q).cur
set_option maxRecDepth 100000 in
theorem run_open : ∀ (q c : List Nat) (f b : Bool), lettersP q → (tokRun ⟨[], c, f, b⟩ q).out = [] ∧ (tokRun ⟨[], c, f, b⟩ q).some = (b || !q.isEmpty)
  | [], c, f, b, _ => by simp [tokRun]
  | r :: q, c, f, b, h => by
    have hr := h r (by simp)
    have hq : lettersP q := fun x hx => h x (by simp [hx])
    rw [tokStep_cons]
    unfold tokStep
    rw [if_neg hr]
    split
    · have := run_open q c true true hq
      simp [this]
    · have := run_open q (c ++ encR (foldN r)) f true hq
      simp [this]
set_option maxRecDepth 100000 in
theorem run_cut : ∀ (l c : List Nat), lettersP c → (tokRun (tokRun tok0 c) (l ++ [32])).out = (cutA c l).map termB
  | [], c, h => by
    have ho := run_open c [] false false h
    rw [List.nil_append, show tokRun (tokRun tok0 c) [32] = tokStep (tokRun tok0 c) 32 from rfl, cutA_nil]
    unfold tokStep
    rw [if_pos class_blank, show tokRun tok0 c = tokRun ⟨[], [], false, false⟩ c from rfl, ho.1, ho.2]
    cases c with
    | nil => rfl
    | cons x c => rfl
  | r :: l, c, h => by
    have ho := run_open c [] false false h
    rw [List.cons_append, tokStep_cons, cutA_cons]
    by_cases hr : classZ (r : Int) = 0
    · rw [if_pos hr]
      have hs : tokStep (tokRun tok0 c) r = ⟨if c = [] then [] else [termB c], [], false, false⟩ := by
        unfold tokStep
        rw [if_pos hr, show tokRun tok0 c = tokRun ⟨[], [], false, false⟩ c from rfl, ho.1, ho.2]
        cases c with
        | nil => rfl
        | cons x c => rfl
      rw [hs]
      have h0 := run_cut l [] (by simp [lettersP])
      have hp := tokRun_pre (if c = [] then [] else [termB c]) (l ++ [32]) tok0
      simp only [tok0, List.append_nil] at hp
      rw [hp]
      show _ ++ (tokRun tok0 (l ++ [32])).out = _
      rw [show tokRun tok0 (l ++ [32]) = tokRun (tokRun tok0 []) (l ++ [32]) from rfl, h0]
      split <;> simp
    · rw [if_neg hr, ← tokRun_snoc]
      exact run_cut l (c ++ [r]) (letters_snoc h hr)
set_option maxRecDepth 100000 in
theorem allR_cut (l : List Nat) : allR l = (cutL l).map termB := run_cut l [] (by simp [lettersP])
set_option maxRecDepth 100000 in
theorem allT_cut (s : ByteArray) : allT s = (cutL (runesOf s)).map termB := allR_cut _

set_option maxRecDepth 100000 in
theorem run_full : ∀ (q c : List Nat) (o : List (List Nat)) (b : Bool), lettersP q → (tokRun ⟨o, c, true, b⟩ q).cur = c
  | [], c, o, b, _ => rfl
  | r :: q, c, o, b, h => by
    rw [tokStep_cons]
    unfold tokStep
    rw [if_neg (h r (by simp)), if_pos (.inl rfl)]
    exact run_full q c o true fun x hx => h x (by simp [hx])
set_option maxRecDepth 100000 in
theorem ints_cons' (r : Nat) (l : List Nat) : ints (r :: l) = (r : Int) :: ints l := rfl
set_option maxRecDepth 100000 in
theorem fitK_cons' (r : Int) (l : List Int) (n : Int) : fitK (r :: l) n = if ((encR (normR r)).length : Int) ≤ n then fitK l (n - (encR (normR r)).length) + 1 else 0 := rfl
set_option maxRecDepth 100000 in
theorem run_term : ∀ (q c : List Nat) (b : Bool), lettersP q → (∀ r ∈ q, okR r) → (tokRun ⟨[], c, false, b⟩ q).cur = c ++ textL ((q.map foldN).take (fitK (ints (q.map foldN)) ((16 : Int) - (c.length : Int))))
  | [], c, b, _, _ => by simp [tokRun, textL]
  | r :: q, c, b, h, ho => by
    have hq : lettersP q := fun x hx => h x (by simp [hx])
    have hok := (fold_ok (ho r (by simp))).2
    rw [tokStep_cons, List.map_cons, ints_cons', fitK_cons', normR_self hok]
    unfold tokStep
    rw [if_neg (h r (by simp))]
    by_cases h16 : 16 < c.length + (encR (foldN r)).length
    · rw [if_pos (.inr h16), if_neg (by omega)]
      rw [run_full q c [] true hq]
      simp [textL]
    · rw [if_neg (by simp; omega), if_pos (by omega)]
      rw [run_term q _ true hq fun x hx => ho x (by simp [hx])]
      have e : (16 : Int) - ((c ++ encR (foldN r)).length : Int) = 16 - (c.length : Int) - ((encR (foldN r)).length : Int) := by rw [List.length_append]; omega
      rw [e, List.take_succ_cons]
      simp [textL]
set_option maxRecDepth 100000 in
theorem fitK_take : ∀ (l : List Int) (n : Int) (m : Nat), n ≤ (m : Int) → fitK (l.take m) n = fitK l n
  | [], n, m, _ => by simp
  | r :: l, n, 0, h => by
    have h1 := (encR_len (normR r)).1
    rw [List.take_zero, fitK_cons', if_neg (by omega)]
    rfl
  | r :: l, n, m + 1, h => by
    have h1 := (encR_len (normR r)).1
    rw [List.take_succ_cons, fitK_cons', fitK_cons', fitK_take l _ m (by omega)]
set_option maxRecDepth 100000 in
theorem textZ_ints {l : List Nat} (h : ∀ r ∈ l, okR r) : textZ (ints l) = byteText (textL l) := by
  unfold textZ
  rw [textB_textL, norm_ints h]
set_option maxRecDepth 100000 in
/-- The first runes, folded, as many as there is room for: that is the run's term. -/
theorem term_fit {q : List Nat} {k : Nat} (hk : k = min q.length 16) (h : lettersP q) (ho : ∀ r ∈ q, okR r) :
    textZ ((ints (runesOf (textZ (ints ((q.take k).map foldN))))).take (fitK (ints (runesOf (textZ (ints ((q.take k).map foldN))))) 16)) = byteText (termB q) := by
  have hf : ∀ r ∈ q.map foldN, okR r := by
    intro x hx
    obtain ⟨r, hr, rfl⟩ := List.mem_map.1 hx
    exact (fold_ok (ho r hr)).2
  have hq : (q.take k).map foldN = (q.map foldN).take 16 := by
    rw [List.map_take]
    subst hk
    by_cases h16 : q.length ≤ 16
    · rw [Nat.min_eq_left h16, List.take_of_length_le (by simp), List.take_of_length_le (by simpa using h16)]
    · rw [Nat.min_eq_right (by omega)]
  have hft : ∀ r ∈ (q.map foldN).take 16, okR r := fun r hr => hf r (List.mem_of_mem_take hr)
  rw [hq, runes_textZ, norm_ints hft, ← ints_take, fitK_take _ _ 16 (by omega), ints_take, ints_take]
  have hle : fitK (ints (q.map foldN)) 16 ≤ 16 := by
    have h1 := fitK_take (ints (q.map foldN)) 16 16 (by omega)
    have h2 := fitK_le ((ints (q.map foldN)).take 16) 16
    rw [List.length_take] at h2
    omega
  rw [List.take_take, Nat.min_eq_left hle, textZ_ints fun r hr => hf r (List.mem_of_mem_take hr)]
  have := run_term q [] false h ho
  unfold termB tok0
  rw [this]
  simp
end Go.Proofs.YthkpaelpnofbgaaGreatDoor
/-
  A tree's text, which trees may be, and that a text that is shown is read as the tree. Without the program's text.
-/
namespace Go.Proofs.YthkpaelpnofbgaaGreatDoor

set_option maxRecDepth 100000 in
theorem Nd.induct {P : Nd → Prop} (h : ∀ k f ts ks, (∀ x ∈ ks, P x) → P (.mk k f ts ks)) : ∀ t, P t
  | .mk k f ts ks => h k f ts ks fun x _ => Nd.induct h x
termination_by t => SizeOf.sizeOf t
decreasing_by
  have := List.sizeOf_lt_of_mem (by assumption : x ∈ ks)
  simp; omega
def brk (p k : Int) : Bool := k == 3 || (k == 2 && p != 3)
def betw (k : Int) : List Nat := if k = 2 then [32, 38, 32] else if k = 3 then [32, 124, 32] else []
def interL : List (List Nat) → List Nat
  | [] => []
  | [a] => a
  | a :: b :: l => a ++ 32 :: interL (b :: l)
def padG (g : ByteArray → List Nat) : Nat → List Tk → List (List Nat)
  | _, [] => []
  | n, t :: ts => List.replicate (t.2.2.toNat - n) [97] ++ g t.2.1 :: padG g (max n t.2.2.toNat + 1) ts
def leafG (g : ByteArray → List Nat) (f : Int) (ts : List Tk) : List Nat :=
  (48 + f.toNat) :: 58 :: (match ts with
    | [t] => g t.2.1
    | ts => 34 :: interL (padG g 0 ts) ++ [34])
mutual
def showG (g : ByteArray → List Nat) : Nd → List Nat
  | .mk k f ts ks => if k = 1 then leafG g f ts else (if k = 4 then [33] else []) ++ showK g k true ks
def showK (g : ByteArray → List Nat) (k : Int) (first : Bool) : List Nd → List Nat
  | [] => []
  | x :: l => (if first then [] else betw k) ++ (if brk k x.kind then 40 :: (showG g x ++ [41]) else showG g x) ++ showK g k false l
end
def showB (t : Nd) : List Nat := showG bytesL t
def showR (t : Nd) : List Nat := showG runesOf t

def termOk (s : ByteArray) : Bool := match wordsT s with
  | [x] => x.1 == bytesL s
  | _ => false
def mayTs (f : Int) : Int → List Tk → Bool
  | _, [] => true
  | last, t :: ts => decide (last < t.2.2) && decide (t.2.2 ≤ 256) && t.1 == f && termOk t.2.1 && mayTs f t.2.2 ts
def mayLeafB (f : Int) (ts : List Tk) : Bool := (match ts with
  | [] => true
  | t :: _ => t.2.2 == 0) && mayTs f (-1) ts
mutual
def mayT (w : Nat) : Nd → Bool
  | .mk k f ts ks =>
    if k = 1 then ks.isEmpty && decide (0 ≤ f) && decide (f < 4) && mayLeafB f ts
    else ((k == 2 || k == 3) && decide (2 ≤ ks.length) || k == 4 && decide (ks.length = 1)) && f == 0 && ts.isEmpty && mayK k (if k = 4 then w + 1 else w) ks
def mayK (k : Int) (w : Nat) : List Nd → Bool
  | [] => true
  | x :: l => decide ((if brk k x.kind then w + 1 else w) ≤ 8) && mayT (if brk k x.kind then w + 1 else w) x && mayK k w l
end
set_option maxRecDepth 100000 in
theorem mayK_iff (k : Int) (w : Nat) : ∀ l : List Nd, mayK k w l = true ↔ ∀ x ∈ l, (if brk k x.kind then w + 1 else w) ≤ 8 ∧ mayT (if brk k x.kind then w + 1 else w) x = true
  | [] => by simp [mayK]
  | x :: l => by
    rw [mayK, Bool.and_eq_true, Bool.and_eq_true, decide_eq_true_eq, mayK_iff k w l]
    simp
set_option maxRecDepth 100000 in
theorem mayT_kind {w : Nat} {t : Nd} (h : mayT w t = true) : t.kind = 1 ∨ t.kind = 2 ∨ t.kind = 3 ∨ t.kind = 4 := by
  cases t with
  | mk k f ts ks =>
    rw [mayT] at h
    show k = 1 ∨ k = 2 ∨ k = 3 ∨ k = 4
    split at h
    · omega
    · simp at h
      omega
set_option maxRecDepth 100000 in
/-- Fewer brackets round it: it may be all the same. -/
theorem mayT_less : ∀ (t : Nd) (w v : Nat), v ≤ w → mayT w t = true → mayT v t = true := by
  refine Nd.induct fun k f ts ks ih w v hv h => ?_
  rw [mayT] at h ⊢
  split
  · rename_i hk; rw [if_pos hk] at h; exact h
  · rename_i hk
    rw [if_neg hk] at h
    rw [Bool.and_eq_true] at h ⊢
    refine ⟨h.1, ?_⟩
    rw [mayK_iff] at h ⊢
    intro x hx
    obtain ⟨h1, h2⟩ := h.2 x hx
    have hv2 : (if k = 4 then v + 1 else v) ≤ (if k = 4 then w + 1 else w) := by split <;> omega
    have hv3 : (if brk k x.kind = true then (if k = 4 then v + 1 else v) + 1 else (if k = 4 then v + 1 else v)) ≤ (if brk k x.kind = true then (if k = 4 then w + 1 else w) + 1 else (if k = 4 then w + 1 else w)) := by split <;> omega
    exact ⟨Nat.le_trans hv3 h1, ih x hx _ _ hv3 h2⟩

/-! ### A word that is its only word -/
set_option maxRecDepth 100000 in
theorem term_of_ok {s : ByteArray} (h : termOk s = true) : Term (bytesL s) ∧ stopB (bytesL s) = false ∧ allR (runesOf s) = [bytesL s] := by
  unfold termOk at h
  split at h
  · rename_i x hx
    have hx1 : x.1 = bytesL s := by simpa using h
    have hm : x ∈ placesF 0 (allT s) := by
      have : wordsT s = placesF 0 (allT s) := rfl
      rw [← this, hx]; simp
    obtain ⟨h1, h2, _⟩ := places_term _ _ _ hm
    rw [hx1] at h1 h2
    have ht := allT_term s _ h1
    have := allT_of_term ht
    rw [byteText_bytesL] at this
    exact ⟨ht, h2, this⟩
  · cases h
set_option maxRecDepth 100000 in
theorem letters_of {s : ByteArray} (h : termOk s = true) : runesOf s ≠ [] ∧ (∀ r ∈ runesOf s, okR r ∧ letB r = true) ∧ bytesL s = textL (runesOf s) := by
  obtain ⟨q, hq, he, hq2⟩ := (term_of_ok h).1.ex
  have hr : runesOf s = q := by
    have := runes_textZ (ints q)
    rw [norm_ints fun x hx => (hq2 x hx).1] at this
    have e : textZ (ints q) = s := by
      rw [textZ_ints fun x hx => (hq2 x hx).1, ← he, byteText_bytesL]
    rw [← e]; exact this
  rw [hr]
  exact ⟨hq, fun r hr => ⟨(hq2 r hr).1, by simpa [letB] using (hq2 r hr).2.1⟩, he⟩

/-! ### Reading on at what was shown -/
def StopW (T : List Nat) : Prop := T = [] ∨ (∃ r, T = 32 :: r) ∨ ∃ r, T = 41 :: r
/-- Behind it stands nothing that goes on with an 'and'. -/
def StopA (T : List Nat) : Prop := StopW T ∧ headZ (skipB T) ≠ 38 ∧ beginB (headZ (skipB T)) = false
def StopO (T : List Nat) : Prop := StopA T ∧ headZ (skipB T) ≠ 124
set_option maxRecDepth 100000 in
theorem stopW_let {T : List Nat} (h : StopW T) : ∀ c r, T = c :: r → letB c = false := by
  rintro c r rfl
  rcases h with h | ⟨r', h⟩ | ⟨r', h⟩
  · cases h
  · injection h with h _; subst h; decide +kernel
  · injection h with h _; subst h; decide +kernel
set_option maxRecDepth 100000 in
theorem takeW_stop {p : Nat → Bool} {q T : List Nat} (hq : ∀ c ∈ q, p c = true) (hT : ∀ c r, T = c :: r → p c = false) : (q ++ T).takeWhile p = q ∧ (q ++ T).dropWhile p = T := by
  induction q with
  | nil =>
    cases T with
    | nil => exact ⟨rfl, rfl⟩
    | cons c r =>
      have := hT c r rfl
      simp [this]
  | cons c q ih =>
    obtain ⟨h1, h2⟩ := ih fun x hx => hq x (by simp [hx])
    rw [List.cons_append, List.takeWhile_cons, List.dropWhile_cons, if_pos (hq c (by simp)), if_pos (hq c (by simp)), h1]
    exact ⟨rfl, h2⟩
set_option maxRecDepth 100000 in
theorem let_blank {c : Nat} (h : letB c = true) : blankB c = false := by
  cases hb : blankB c with
  | false => rfl
  | true => rw [(blank_let c hb).1] at h; cases h
set_option maxRecDepth 100000 in
theorem let_signs {c : Nat} (h : letB c = true) : c ≠ 33 ∧ c ≠ 34 ∧ c ≠ 35 ∧ c ≠ 38 ∧ c ≠ 40 ∧ c ≠ 41 ∧ c ≠ 58 ∧ c ≠ 64 ∧ c ≠ 124 ∧ c ≠ 32 := by
  refine ⟨?_, ?_, ?_, ?_, ?_, ?_, ?_, ?_, ?_, ?_⟩ <;> (rintro rfl; revert h; decide +kernel)
set_option maxRecDepth 100000 in
theorem skip_let {q T : List Nat} (hq : q ≠ []) (hl : ∀ c ∈ q, letB c = true) : skipB (q ++ T) = q ++ T := by
  cases q with
  | nil => exact absurd rfl hq
  | cons c q => rw [List.cons_append, skipB, let_blank (hl c (by simp))]; rfl
set_option maxRecDepth 100000 in
theorem word_at (k : Nat) {q T : List Nat} (hq : q ≠ []) (hl : ∀ c ∈ q, letB c = true) (hT : ∀ c r, T = c :: r → letB c = false) : wordP k (q ++ T) = .ok q T := by
  unfold wordP
  rw [skip_let hq hl]
  obtain ⟨h1, h2⟩ := takeW_stop hl hT
  rw [h1, h2, if_neg]
  cases q with
  | nil => exact absurd rfl hq
  | cons c q =>
    have := hl c (by simp)
    simpa [letB, headZ] using this
set_option maxRecDepth 100000 in
/-- The words that are laid with blanks between are these. -/
theorem allR_nil : allR [] = [] := by decide +kernel
set_option maxRecDepth 100000 in
theorem allR_inter : ∀ l : List (List Nat), allR (interL l) = (l.map allR).flatten
  | [] => allR_nil
  | [a] => by simp [interL]
  | a :: b :: l => by
    rw [interL, allR_blank, allR_inter (b :: l)]
    rfl
set_option maxRecDepth 100000 in
theorem allR_a : allR [97] = [[97]] := by decide +kernel
set_option maxRecDepth 100000 in
theorem stop_a : stopB [97] = true := by decide +kernel
set_option maxRecDepth 100000 in
theorem pad_words : ∀ (ts : List Tk) (n : Nat), (∀ t ∈ ts, termOk t.2.1 = true) → ((padG runesOf n ts).map allR).flatten = padG bytesL n ts
  | [], _, _ => rfl
  | t :: ts, n, h => by
    rw [padG, padG, List.map_append, List.flatten_append, List.map_cons, List.flatten_cons, (term_of_ok (h t (by simp))).2.2, pad_words ts _ fun x hx => h x (by simp [hx])]
    congr 1
    rw [List.map_replicate, allR_a]
    generalize t.2.2.toNat - n = m
    induction m with
    | zero => rfl
    | succ m ih => rw [List.replicate_succ, List.replicate_succ, List.flatten_cons, ih]; rfl
set_option maxRecDepth 100000 in
theorem places_pad (m n : Nat) (l : List (List Nat)) : placesF n (List.replicate m [97] ++ l) = placesF (n + m) l := by
  induction m generalizing n with
  | zero => rfl
  | succ m ih =>
    rw [List.replicate_succ, List.cons_append, placesF, stop_a, if_pos rfl, ih]
    congr 1
    omega
set_option maxRecDepth 100000 in
theorem places_of (f : Int) : ∀ (ts : List Tk) (n : Nat) (last : Int), last < (n : Int) → (n : Int) ≤ last + 1 → mayTs f last ts = true → placesF n (padG bytesL n ts) = ts.map fun t => (bytesL t.2.1, t.2.2.toNat)
  | [], _, _, _, _, _ => rfl
  | t :: ts, n, last, hn, hn2, h => by
    rw [mayTs] at h
    simp only [Bool.and_eq_true, decide_eq_true_eq] at h
    obtain ⟨⟨⟨⟨h1, h2⟩, h3⟩, h4⟩, h5⟩ := h
    rw [padG, places_pad, placesF, (term_of_ok h4).2.1]
    have e : n + (t.2.2.toNat - n) = t.2.2.toNat := by omega
    have e2 : max n t.2.2.toNat = t.2.2.toNat := by omega
    rw [e, e2, places_of f ts (t.2.2.toNat + 1) t.2.2 (by omega) (by omega) h5]
    rfl
set_option maxRecDepth 100000 in
theorem mayTs_all (f : Int) : ∀ (ts : List Tk) (last : Int), mayTs f last ts = true → ∀ t ∈ ts, t.1 = f ∧ last < t.2.2 ∧ t.2.2 ≤ 256 ∧ termOk t.2.1 = true
  | [], _, _, t, ht => by simp at ht
  | x :: ts, last, h, t, ht => by
    rw [mayTs] at h
    simp only [Bool.and_eq_true, decide_eq_true_eq] at h
    obtain ⟨⟨⟨⟨h1, h2⟩, h3⟩, h4⟩, h5⟩ := h
    rcases List.mem_cons.1 ht with rfl | ht
    · exact ⟨by simpa using h3, h1, h2, h4⟩
    · obtain ⟨g1, g2, g3, g4⟩ := mayTs_all f ts _ h5 t ht
      exact ⟨g1, by omega, g3, g4⟩
set_option maxRecDepth 100000 in
/-- The leaf that is made of a leaf's words is that leaf. -/
theorem leaf_back (f : Int) (ts : List Tk) (h : mayLeafB f ts = true) (q : List Nat) (hq : allR q = padG bytesL 0 ts) : leafNd f q = .mk 1 f ts [] := by
  unfold mayLeafB at h
  rw [Bool.and_eq_true] at h
  obtain ⟨h1, h2⟩ := h
  have hp := places_of f ts 0 (-1) (by omega) (by omega) h2
  have ha := mayTs_all f ts (-1) h2
  unfold leafNd wordsR
  rw [hq, hp]
  have hf : firstP (ts.map fun t => (bytesL t.2.1, t.2.2.toNat)) = 0 := by
    cases ts with
    | nil => rfl
    | cons t ts => simp at h1; simp [firstP, h1]
  unfold leafW
  rw [hf, List.map_map]
  congr 1
  rw [List.map_congr_left (g := id), List.map_id]
  intro t ht
  obtain ⟨g1, g2, g3, g4⟩ := ha t ht
  obtain ⟨a, b, c⟩ := t
  simp only [Function.comp, id, byteText_bytesL] at g1 g2 ⊢
  refine Prod.ext g1.symm (Prod.ext rfl ?_)
  simp only
  omega
set_option maxRecDepth 100000 in
/-- A word's runes are no sign. -/
theorem pad_no (ts : List Tk) : ∀ n : Nat, (∀ t ∈ ts, termOk t.2.1 = true) → ∀ q ∈ padG runesOf n ts, ∀ c ∈ q, letB c = true := by
  induction ts with
  | nil => intro n _ q hq; simp [padG] at hq
  | cons t ts ih =>
    intro n h q hq c hc
    rw [padG] at hq
    rcases List.mem_append.1 hq with hq | hq
    · have := List.eq_of_mem_replicate hq
      subst this
      simp at hc; subst hc; decide +kernel
    · rcases List.mem_cons.1 hq with rfl | hq
      · exact ((letters_of (h t (by simp))).2.1 c hc).2
      · exact ih _ (fun x hx => h x (by simp [hx])) q hq c hc
set_option maxRecDepth 100000 in
theorem inter_no : ∀ l : List (List Nat), (∀ q ∈ l, ∀ c ∈ q, letB c = true) → 34 ∉ interL l
  | [], _ => by simp [interL]
  | [a], h => by
    intro h34
    exact (let_signs (h a (by simp) 34 h34)).2.1 rfl
  | a :: b :: l, h => by
    have ih := inter_no (b :: l) fun q hq => h q (by simp at hq ⊢; exact .inr hq)
    intro h34
    rw [interL] at h34
    rcases List.mem_append.1 h34 with h34 | h34
    · exact (let_signs (h a (by simp) 34 h34)).2.1 rfl
    · rcases List.mem_cons.1 h34 with h34 | h34
      · cases h34
      · exact ih h34
set_option maxRecDepth 100000 in
theorem takeW_until : ∀ (q T : List Nat), 34 ∉ q → (q ++ 34 :: T).takeWhile (· != 34) = q ∧ ((q ++ 34 :: T).dropWhile (· != 34)).drop 1 = T
  | [], T, _ => by simp
  | c :: q, T, h => by
    obtain ⟨h1, h2⟩ := takeW_until q T fun e => h (by simp [e])
    have hc : (c != 34) = true := bne_iff_ne.2 fun e => h (by simp [e])
    rw [List.cons_append, List.takeWhile_cons, List.dropWhile_cons, if_pos hc, if_pos hc, h1]
    exact ⟨rfl, h2⟩
set_option maxRecDepth 100000 in
theorem skip_field {c : Nat} (h : 48 ≤ c) (hc : c < 52) (l : List Nat) : skipB (c :: l) = c :: l := by
  have : blankB c = false := by unfold blankB; simp; omega
  rw [skipB, this]; rfl
set_option maxRecDepth 100000 in
theorem back_leaf (k : Nat) (f : Int) (hf0 : 0 ≤ f) (hf : f < 4) (ts : List Tk) (h : mayLeafB f ts = true) {T : List Nat} (hT : StopW T) : leafP k (leafG runesOf f ts ++ T) = .ok (.mk 1 f ts []) T := by
  have h2 : mayTs f (-1) ts = true := by unfold mayLeafB at h; rw [Bool.and_eq_true] at h; exact h.2
  have ha := mayTs_all f ts (-1) h2
  have hok : ∀ t ∈ ts, termOk t.2.1 = true := fun t ht => (ha t ht).2.2.2
  have hfl : ∀ l : List Nat, fieldP ((48 + f.toNat) :: 58 :: l) = (f, l) := fun l => by
    unfold fieldP
    rw [skip_field (by omega) (by omega)]
    simp only
    rw [if_pos ⟨by omega, by omega⟩]
    refine Prod.ext ?_ rfl
    simp only
    omega
  have ph : ∀ ts : List Tk, (∀ t ∈ ts, termOk t.2.1 = true) → mayLeafB f ts = true → leafP k ((48 + f.toNat) :: 58 :: (34 :: interL (padG runesOf 0 ts) ++ [34]) ++ T) = .ok (.mk 1 f ts []) T := fun ts hok h => by
    have hno := inter_no _ (pad_no ts 0 hok)
    unfold leafP
    rw [show (48 + f.toNat) :: 58 :: (34 :: interL (padG runesOf 0 ts) ++ [34]) ++ T = (48 + f.toNat) :: 58 :: (34 :: (interL (padG runesOf 0 ts) ++ 34 :: T)) by simp, hfl]
    simp only
    rw [show skipB (34 :: (interL (padG runesOf 0 ts) ++ 34 :: T)) = 34 :: (interL (padG runesOf 0 ts) ++ 34 :: T) from rfl, if_pos (show headZ (34 :: (interL (padG runesOf 0 ts) ++ 34 :: T)) = 34 from rfl), List.drop_succ_cons, List.drop_zero]
    obtain ⟨h3, h4⟩ := takeW_until _ T hno
    unfold phraseP
    rw [if_pos (by simp), h3, h4]
    show PR.ok _ _ = _
    rw [leaf_back f ts h _ (by rw [allR_inter, pad_words ts 0 hok])]
  unfold leafG
  match ts, h, hok, ph with
  | [], h, hok, ph => exact ph [] hok h
  | [t], h, hok, ph =>
    obtain ⟨hq, hl, _⟩ := letters_of (hok t (by simp))
    have hll : ∀ c ∈ runesOf t.2.1, letB c = true := fun c hc => (hl c hc).2
    unfold leafP
    rw [show (48 + f.toNat) :: 58 :: runesOf t.2.1 ++ T = (48 + f.toNat) :: 58 :: (runesOf t.2.1 ++ T) from rfl, hfl]
    simp only
    rw [skip_let hq hll, if_neg, word_at k hq hll (stopW_let hT)]
    · show PR.ok _ _ = _
      rw [leaf_back f [t] h _ ?_]
      have h0 : t.2.2 = 0 := by unfold mayLeafB at h; simp at h; exact h.1
      rw [(term_of_ok (hok t (by simp))).2.2, padG, h0]
      rfl
    · cases hr : runesOf t.2.1 with
      | nil => exact absurd hr hq
      | cons c r =>
        have := (let_signs (hll c (by rw [hr]; simp))).2.1
        simp only [List.cons_append, headZ]
        omega
  | a :: b :: ts, h, hok, ph => exact ph (a :: b :: ts) hok h
end Go.Proofs.YthkpaelpnofbgaaGreatDoor
