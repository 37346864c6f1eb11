/-
  Queries as trees and as texts, without the program's text: how a text is read, rune by rune, part by part.
-/
import Derived.Test.YtaaeooimalglaaaDoorTokWords
namespace Go.Proofs.YtaaeooimalglaaaDoor

/-- What a part of the reading comes to: a value and what is left, or an error. -/
inductive PR (α : Type) where
  | ok (a : α) (rest : List Nat)
  | err (e : Int)
def PR.bind {α β : Type} : PR α → (α → List Nat → PR β) → PR β
  | .ok a l, f => f a l
  | .err e, _ => .err e
def PR.map {α β : Type} (g : α → β) (x : PR α) : PR β := x.bind fun a l => .ok (g a) l

def blankB (c : Nat) : Bool := c == 32 || c == 9 || c == 10 || c == 13
def skipB : List Nat → List Nat
  | [] => []
  | c :: l => if blankB c then skipB l else c :: l
/-- What stands first; -1: nothing. -/
def headZ : List Nat → Int
  | [] => -1
  | c :: _ => (c : Int)
def letB (c : Nat) : Bool := classZ (c : Int) != 0
/-- The error where a part can't go on; k: how many brackets and signs that turn may still be opened. -/
def failE (k : Nat) (l : List Nat) : Int := if (headZ (skipB l) = 40 ∨ headZ (skipB l) = 33) ∧ k = 0 then 9 else 8
def wordP (k : Nat) (l : List Nat) : PR (List Nat) :=
  if classZ (headZ (skipB l)) = 0 then .err (failE k (skipB l)) else .ok ((skipB l).takeWhile letB) ((skipB l).dropWhile letB)
def phraseP (l : List Nat) : PR (List Nat) :=
  if 34 ∈ l then .ok (l.takeWhile (· != 34)) ((l.dropWhile (· != 34)).drop 1) else .err 8
def fieldP (l : List Nat) : Int × List Nat :=
  match skipB l with
  | c :: 58 :: r => if 48 ≤ c ∧ c < 52 then ((c : Int) - 48, r) else (0, c :: 58 :: r)
  | s => (0, s)
def wordsR (q : List Nat) : List (List Nat × Nat) := placesF 0 (allR q)
def firstP : List (List Nat × Nat) → Nat
  | [] => 0
  | x :: _ => x.2
def leafW (f : Int) (ws : List (List Nat × Nat)) : List Tk := ws.map fun x => (f, byteText x.1, (x.2 : Int) - (firstP ws : Int))
def leafNd (f : Int) (q : List Nat) : Nd := .mk 1 f (leafW f (wordsR q)) []
def leafP (k : Nat) (l : List Nat) : PR Nd :=
  if headZ (skipB (fieldP l).2) = 34 then (phraseP ((skipB (fieldP l).2).drop 1)).map (leafNd (fieldP l).1)
  else (wordP k (fieldP l).2).map (leafNd (fieldP l).1)
def joinN (kind : Int) (ps : List Nd) : Nd :=
  match ps with
  | [n] => n
  | ps => .mk kind 0 [] ps
def beginB (c : Int) : Bool := c == 33 || c == 40 || c == 34 || classZ c != 0
def andLoop (nt : List Nat → PR Nd) : Nat → List Nd → List Nat → PR Nd
  | 0, _, _ => .err 0
  | f + 1, ps, l =>
    if headZ (skipB l) = 38 then (nt ((skipB l).drop 1)).bind fun n l' => andLoop nt f (ps ++ [n]) l'
    else if beginB (headZ (skipB l)) then (nt (skipB l)).bind fun n l' => andLoop nt f (ps ++ [n]) l'
    else .ok (joinN 2 ps) (skipB l)
def andP (nt : List Nat → PR Nd) (l : List Nat) : PR Nd := (nt l).bind fun n l' => andLoop nt (l'.length + 1) [n] l'
def orLoop (an : List Nat → PR Nd) : Nat → List Nd → List Nat → PR Nd
  | 0, _, _ => .err 0
  | f + 1, ps, l =>
    if headZ (skipB l) = 124 then (an ((skipB l).drop 1)).bind fun n l' => orLoop an f (ps ++ [n]) l'
    else .ok (joinN 3 ps) (skipB l)
def orP (an : List Nat → PR Nd) (l : List Nat) : PR Nd := (an l).bind fun n l' => orLoop an (l'.length + 1) [n] l'
/-- What stands in brackets, behind the first one. -/
def closeP (k : Nat) (x : PR Nd) : PR Nd := x.bind fun n l => if headZ (skipB l) = 41 then .ok n ((skipB l).drop 1) else .err (failE k (skipB l))
def turnP (x : PR Nd) : PR Nd := x.map fun n => .mk 4 0 [] [n]
def notP : Nat → List Nat → PR Nd
  | 0, l => if headZ (skipB l) = 33 ∨ headZ (skipB l) = 40 then .err 9 else leafP 0 (skipB l)
  | k + 1, l =>
    if headZ (skipB l) = 33 then turnP (notP k ((skipB l).drop 1))
    else if headZ (skipB l) = 40 then closeP k (orP (andP (notP k)) ((skipB l).drop 1))
    else leafP (k + 1) (skipB l)
/-- A limit's word; -1: it is none. -/
def limZ (q : List Nat) : Int :=
  match q with
  | [a] => if 48 ≤ a ∧ a ≤ 57 then (a : Int) - 48 else -1
  | [a, b] => if 49 ≤ a ∧ a ≤ 57 ∧ 48 ≤ b ∧ b ≤ 57 ∧ 10 * (a - 48) + (b - 48) ≤ 64 then 10 * ((a : Int) - 48) + ((b : Int) - 48) else -1
  | _ => -1
def limitP (l : List Nat) : PR Int := (wordP 8 l).bind fun q r => if limZ q = -1 then .err (failE 8 r) else .ok (limZ q) r
def orderP (l : List Nat) : PR Int := (wordP 8 l).bind fun q r => if q = [110, 101, 119] then .ok 1 r else if q = [114, 97, 110, 107] then .ok 0 r else .err (failE 8 r)
/-- What is known of limit and order on the way. -/
structure Opt where
  lim : Int
  limd : Bool
  ord : Int
  ordd : Bool
def optLoop : Nat → Opt → List Nat → PR Opt
  | 0, _, _ => .err 0
  | f + 1, o, l =>
    if headZ (skipB l) = 35 ∧ o.limd = false then (limitP ((skipB l).drop 1)).bind fun n l' => optLoop f { o with lim := n, limd := true } l'
    else if headZ (skipB l) = 64 ∧ o.ordd = false then (orderP ((skipB l).drop 1)).bind fun n l' => optLoop f { o with ord := n, ordd := true } l'
    else if headZ (skipB l) = -1 then .ok o []
    else .err (failE 8 (skipB l))
def parseR (l : List Nat) : PR (Nd × Opt) :=
  (orP (andP (notP 8)) l).bind fun n l' => (optLoop (l'.length + 1) ⟨10, false, 0, false⟩ l').map fun o => (n, o)

/-! ### Each part reads on -/
set_option maxRecDepth 100000 in
theorem skipB_le : ∀ l : List Nat, (skipB l).length ≤ l.length
  | [] => Nat.le_refl _
  | c :: l => by
    have := skipB_le l
    rw [skipB]
    split
    · simp; omega
    · simp
set_option maxRecDepth 100000 in
theorem skipB_skip : ∀ l : List Nat, skipB (skipB l) = skipB l
  | [] => rfl
  | c :: l => by
    rw [skipB]
    split
    · exact skipB_skip l
    · rename_i h
      rw [skipB, if_neg h]
set_option maxRecDepth 100000 in
theorem headZ_cons {l : List Nat} {c : Int} (h : headZ l = c) (h0 : 0 ≤ c) : l = c.toNat :: l.drop 1 := by
  cases l with
  | nil => simp [headZ] at h; omega
  | cons a l => simp [headZ] at h; subst h; simp
set_option maxRecDepth 100000 in
theorem class_end : classZ (-1) = 0 := by decide
set_option maxRecDepth 100000 in
theorem headZ_let {l : List Nat} (h : classZ (headZ l) ≠ 0) : ∃ c r, l = c :: r ∧ letB c = true := by
  cases l with
  | nil => exact absurd class_end h
  | cons c r => exact ⟨c, r, rfl, by simpa [letB, headZ] using h⟩
def Less (α : Type) (p : List Nat → PR α) : Prop := ∀ l n l', p l = .ok n l' → l'.length < l.length
set_option maxRecDepth 100000 in
theorem dropW_le (p : Nat → Bool) : ∀ l : List Nat, (l.dropWhile p).length ≤ l.length
  | [] => by simp
  | c :: l => by
    have := dropW_le p l
    rw [List.dropWhile_cons]
    split <;> simp <;> omega
set_option maxRecDepth 100000 in
theorem word_less (k : Nat) : Less _ (wordP k) := by
  intro l n l' h
  unfold wordP at h
  split at h
  · cases h
  · rename_i hc
    obtain ⟨c, r, hl, hb⟩ := headZ_let hc
    injection h with h1 h2
    subst h2
    rw [hl, List.dropWhile_cons, if_pos hb]
    have := dropW_le letB r
    have := skipB_le l
    rw [hl] at this
    simp at this
    omega
set_option maxRecDepth 100000 in
theorem phrase_le {l : List Nat} {q l' : List Nat} (h : phraseP l = .ok q l') : l'.length ≤ l.length := by
  unfold phraseP at h
  split at h
  · injection h with h1 h2
    subst h2
    have := dropW_le (· != 34) l
    simp
    omega
  · cases h
set_option maxRecDepth 100000 in
theorem field_le (l : List Nat) : (fieldP l).2.length ≤ l.length := by
  have h := skipB_le l
  unfold fieldP
  split
  · rename_i c r hs
    rw [hs] at h
    split
    · simp at h ⊢; omega
    · simpa using h
  · exact h
set_option maxRecDepth 100000 in
theorem map_ok {α β : Type} {g : α → β} {x : PR α} {b : β} {l : List Nat} (h : x.map g = .ok b l) : ∃ a, x = .ok a l ∧ b = g a := by
  cases x with
  | ok a l1 => injection h with h1 h2; exact ⟨a, by rw [h2], h1.symm⟩
  | err e => cases h
set_option maxRecDepth 100000 in
theorem bind_ok {α β : Type} {g : α → List Nat → PR β} {x : PR α} {b : β} {l : List Nat} (h : x.bind g = .ok b l) : ∃ a l1, x = .ok a l1 ∧ g a l1 = .ok b l := by
  cases x with
  | ok a l1 => exact ⟨a, l1, rfl, h⟩
  | err e => cases h
set_option maxRecDepth 100000 in
theorem leaf_less (k : Nat) : Less _ (leafP k) := by
  intro l n l' h
  have hf := field_le l
  unfold leafP at h
  split at h
  · rename_i hq
    obtain ⟨q, h1, _⟩ := map_ok h
    have h2 := phrase_le h1
    have h3 := skipB_le (fieldP l).2
    rw [headZ_cons hq (by omega)] at h3
    simp at h2 h3
    omega
  · obtain ⟨q, h1, _⟩ := map_ok h
    have := word_less k _ _ _ h1
    omega
set_option maxRecDepth 100000 in
theorem andLoop_le {nt : List Nat → PR Nd} (hn : Less _ nt) : ∀ (f : Nat) (ps : List Nd) (l : List Nat) (n : Nd) (l' : List Nat), andLoop nt f ps l = .ok n l' → l'.length ≤ l.length
  | 0, _, _, _, _, h => by cases h
  | f + 1, ps, l, n, l', h => by
    have hs := skipB_le l
    rw [andLoop] at h
    split at h
    · obtain ⟨a, l1, h1, h2⟩ := bind_ok h
      have := hn _ _ _ h1
      have := andLoop_le hn f _ _ _ _ h2
      have := List.length_drop (i := 1) (l := skipB l)
      omega
    · split at h
      · obtain ⟨a, l1, h1, h2⟩ := bind_ok h
        have := hn _ _ _ h1
        have := andLoop_le hn f _ _ _ _ h2
        omega
      · injection h with h1 h2; subst h2; exact hs
set_option maxRecDepth 100000 in
theorem and_less {nt : List Nat → PR Nd} (hn : Less _ nt) : Less _ (andP nt) := by
  intro l n l' h
  obtain ⟨a, l1, h1, h2⟩ := bind_ok h
  have := hn _ _ _ h1
  have := andLoop_le hn _ _ _ _ _ h2
  omega
set_option maxRecDepth 100000 in
theorem orLoop_le {nt : List Nat → PR Nd} (hn : Less _ nt) : ∀ (f : Nat) (ps : List Nd) (l : List Nat) (n : Nd) (l' : List Nat), orLoop nt f ps l = .ok n l' → l'.length ≤ l.length
  | 0, _, _, _, _, h => by cases h
  | f + 1, ps, l, n, l', h => by
    have hs := skipB_le l
    rw [orLoop] at h
    split at h
    · obtain ⟨a, l1, h1, h2⟩ := bind_ok h
      have := hn _ _ _ h1
      have := orLoop_le hn f _ _ _ _ h2
      have := List.length_drop (i := 1) (l := skipB l)
      omega
    · injection h with h1 h2; subst h2; exact hs
set_option maxRecDepth 100000 in
theorem or_less {nt : List Nat → PR Nd} (hn : Less _ nt) : Less _ (orP nt) := by
  intro l n l' h
  obtain ⟨a, l1, h1, h2⟩ := bind_ok h
  have := hn _ _ _ h1
  have := orLoop_le hn _ _ _ _ _ h2
  omega
set_option maxRecDepth 100000 in
theorem not_less : ∀ k : Nat, Less _ (notP k)
  | 0, l, n, l', h => by
    have hs := skipB_le l
    rw [notP] at h
    split at h
    · cases h
    · have := leaf_less 0 _ _ _ h; omega
  | k + 1, l, n, l', h => by
    have hs := skipB_le l
    rw [notP] at h
    split at h
    · rename_i hc
      obtain ⟨a, h1, _⟩ := map_ok h
      have := not_less k _ _ _ h1
      rw [headZ_cons hc (by omega)] at hs
      simp at hs this
      omega
    · split at h
      · rename_i hc
        obtain ⟨a, l1, h1, h2⟩ := bind_ok h
        have h3 := or_less (and_less (not_less k)) _ _ _ h1
        rw [headZ_cons hc (by omega)] at hs
        split at h2
        · injection h2 with h4 h5
          have := skipB_le l1
          have := List.length_drop (i := 1) (l := skipB l1)
          have := List.length_drop (i := 1) (l := skipB l)
          simp at hs
          rw [← h5]
          omega
        · cases h2
      · have := leaf_less (k + 1) _ _ _ h; omega

/-! ### As much fuel as there are runes is enough -/
set_option maxRecDepth 100000 in
theorem bind_congr {α β : Type} {x : PR α} {f g : α → List Nat → PR β} (h : ∀ a l, x = .ok a l → f a l = g a l) : x.bind f = x.bind g := by
  cases x with
  | ok a l => exact h a l rfl
  | err e => rfl
set_option maxRecDepth 100000 in
theorem andLoop_enough {nt : List Nat → PR Nd} (hn : Less _ nt) : ∀ (f g : Nat) (ps : List Nd) (l : List Nat), l.length < f → l.length < g → andLoop nt f ps l = andLoop nt g ps l
  | 0, _, _, _, h, _ => by omega
  | _ + 1, 0, _, _, _, h => by omega
  | f + 1, g + 1, ps, l, hf, hg => by
    have hs := skipB_le l
    rw [andLoop, andLoop]
    split
    · apply bind_congr
      intro a l1 h1
      have := hn _ _ _ h1
      have := List.length_drop (i := 1) (l := skipB l)
      exact andLoop_enough hn f g _ _ (by omega) (by omega)
    · split
      · apply bind_congr
        intro a l1 h1
        have := hn _ _ _ h1
        exact andLoop_enough hn f g _ _ (by omega) (by omega)
      · rfl
set_option maxRecDepth 100000 in
theorem orLoop_enough {nt : List Nat → PR Nd} (hn : Less _ nt) : ∀ (f g : Nat) (ps : List Nd) (l : List Nat), l.length < f → l.length < g → orLoop nt f ps l = orLoop nt g ps l
  | 0, _, _, _, h, _ => by omega
  | _ + 1, 0, _, _, _, h => by omega
  | f + 1, g + 1, ps, l, hf, hg => by
    have hs := skipB_le l
    rw [orLoop, orLoop]
    split
    · apply bind_congr
      intro a l1 h1
      have := hn _ _ _ h1
      have := List.length_drop (i := 1) (l := skipB l)
      exact orLoop_enough hn f g _ _ (by omega) (by omega)
    · rfl
/-- The loops with all the fuel they want, a step at a time. -/
def andR (k : Nat) (ps : List Nd) (l : List Nat) : PR Nd := andLoop (notP k) (l.length + 1) ps l
def orR (k : Nat) (ps : List Nd) (l : List Nat) : PR Nd := orLoop (andP (notP k)) (l.length + 1) ps l
set_option maxRecDepth 100000 in
theorem andP_eq (k : Nat) (l : List Nat) : andP (notP k) l = (notP k l).bind fun n l' => andR k [n] l' := rfl
set_option maxRecDepth 100000 in
theorem orP_eq (k : Nat) (l : List Nat) : orP (andP (notP k)) l = (andP (notP k) l).bind fun n l' => orR k [n] l' := rfl
set_option maxRecDepth 100000 in
theorem andR_step (k : Nat) (ps : List Nd) (l : List Nat) : andR k ps l =
    if headZ (skipB l) = 38 then (notP k ((skipB l).drop 1)).bind fun n l' => andR k (ps ++ [n]) l'
    else if beginB (headZ (skipB l)) then (notP k (skipB l)).bind fun n l' => andR k (ps ++ [n]) l'
    else .ok (joinN 2 ps) (skipB l) := by
  have hs := skipB_le l
  show andLoop _ _ _ _ = _
  rw [andLoop]
  split
  · apply bind_congr
    intro a l1 h1
    have := not_less k _ _ _ h1
    have := List.length_drop (i := 1) (l := skipB l)
    exact andLoop_enough (not_less k) _ _ _ _ (by omega) (by omega)
  · split
    · apply bind_congr
      intro a l1 h1
      have := not_less k _ _ _ h1
      exact andLoop_enough (not_less k) _ _ _ _ (by omega) (by omega)
    · rfl
set_option maxRecDepth 100000 in
theorem orR_step (k : Nat) (ps : List Nd) (l : List Nat) : orR k ps l =
    if headZ (skipB l) = 124 then (andP (notP k) ((skipB l).drop 1)).bind fun n l' => orR k (ps ++ [n]) l'
    else .ok (joinN 3 ps) (skipB l) := by
  have hs := skipB_le l
  show orLoop _ _ _ _ = _
  rw [orLoop]
  split
  · apply bind_congr
    intro a l1 h1
    have := and_less (not_less k) _ _ _ h1
    have := List.length_drop (i := 1) (l := skipB l)
    exact orLoop_enough (and_less (not_less k)) _ _ _ _ (by omega) (by omega)
  · rfl
def optR (o : Opt) (l : List Nat) : PR Opt := optLoop (l.length + 1) o l
set_option maxRecDepth 100000 in
theorem limit_less : Less _ limitP := by
  intro l n l' h
  obtain ⟨a, l1, h1, h2⟩ := bind_ok h
  have := word_less _ _ _ _ h1
  split at h2
  · cases h2
  · injection h2 with h3 h4; subst h4; exact this
set_option maxRecDepth 100000 in
theorem order_less : Less _ orderP := by
  intro l n l' h
  obtain ⟨a, l1, h1, h2⟩ := bind_ok h
  have := word_less _ _ _ _ h1
  split at h2
  · injection h2 with h3 h4; subst h4; exact this
  · split at h2
    · injection h2 with h3 h4; subst h4; exact this
    · cases h2
set_option maxRecDepth 100000 in
theorem optLoop_enough : ∀ (f g : Nat) (o : Opt) (l : List Nat), l.length < f → l.length < g → optLoop f o l = optLoop g o l
  | 0, _, _, _, h, _ => by omega
  | _ + 1, 0, _, _, _, h => by omega
  | f + 1, g + 1, o, l, hf, hg => by
    have hs := skipB_le l
    have hd := List.length_drop (i := 1) (l := skipB l)
    rw [optLoop, optLoop]
    split
    · apply bind_congr
      intro a l1 h1
      have := limit_less _ _ _ h1
      exact optLoop_enough f g _ _ (by omega) (by omega)
    · split
      · apply bind_congr
        intro a l1 h1
        have := order_less _ _ _ h1
        exact optLoop_enough f g _ _ (by omega) (by omega)
      · rfl
set_option maxRecDepth 100000 in
theorem optR_step (o : Opt) (l : List Nat) : optR o l =
    if headZ (skipB l) = 35 ∧ o.limd = false then (limitP ((skipB l).drop 1)).bind fun n l' => optR { o with lim := n, limd := true } l'
    else if headZ (skipB l) = 64 ∧ o.ordd = false then (orderP ((skipB l).drop 1)).bind fun n l' => optR { o with ord := n, ordd := true } l'
    else if headZ (skipB l) = -1 then .ok o []
    else .err (failE 8 (skipB l)) := by
  have hs := skipB_le l
  have hd := List.length_drop (i := 1) (l := skipB l)
  show optLoop _ _ _ = _
  rw [optLoop]
  split
  · apply bind_congr
    intro a l1 h1
    have := limit_less _ _ _ h1
    exact optLoop_enough _ _ _ _ (by omega) (by omega)
  · split
    · apply bind_congr
      intro a l1 h1
      have := order_less _ _ _ h1
      exact optLoop_enough _ _ _ _ (by omega) (by omega)
    · rfl
set_option maxRecDepth 100000 in
theorem parseR_eq (l : List Nat) : parseR l = (orP (andP (notP 8)) l).bind fun n l' => (optR ⟨10, false, 0, false⟩ l').map fun o => (n, o) := rfl
end Go.Proofs.YtaaeooimalglaaaDoor
