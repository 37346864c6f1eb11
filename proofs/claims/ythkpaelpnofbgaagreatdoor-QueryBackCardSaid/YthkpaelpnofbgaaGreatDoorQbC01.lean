/-
  What is read of a text of at most 256 runes isn't too great a tree: eight for each rune. Of the program's own text only the weight's names.
-/
import Derived.Test.YthkpaelpnofbgaaGreatDoorQsC20
import Derived.Test.YthkpaelpnofbgaaGreatDoorQsC07
import Derived.Test.YthkpaelpnofbgaaGreatDoorQsC09
namespace Go.Proofs.YthkpaelpnofbgaaGreatDoor

def potL : List (List Nat) → Nat
  | [] => 0
  | t :: l => 1 + t.length + potL l
set_option maxRecDepth 100000 in
theorem cur_len : ∀ (l : List Nat) (st : TokSt), (tokRun st l).cur.length ≤ st.cur.length + 4 * l.length
  | [], st => by simp [tokRun]
  | r :: l, st => by
    have h := cur_len l (tokStep st r)
    rw [tokStep_cons, List.length_cons]
    have hs : (tokStep st r).cur.length ≤ st.cur.length + 4 := by
      have he := encR_len (foldN r)
      unfold tokStep
      split
      · simp
      · split
        · simp
        · simp; omega
    omega
set_option maxRecDepth 100000 in
theorem termB_len (q : List Nat) : (termB q).length ≤ 4 * q.length := by
  have := cur_len q tok0
  simpa [termB, tok0] using this
set_option maxRecDepth 100000 in
theorem cut_pot : ∀ (l c : List Nat), potL ((cutA c l).map termB) ≤ 4 * (c.length + l.length) + 1
  | [], c => by
    have := termB_len c
    rw [cutA_nil]
    split
    · simp [potL]
    · simp [potL]; omega
  | r :: l, c => by
    have h1 := cut_pot l []
    have h2 := cut_pot l (c ++ [r])
    have := termB_len c
    rw [cutA_cons]
    simp only [List.length_append, List.length_cons, List.length_nil] at h1 h2 ⊢
    split
    · split
      · omega
      · rw [List.map_cons, potL]; omega
    · omega
set_option maxRecDepth 100000 in
theorem text_size (t : List Nat) : (byteText t).size = t.length := by simp [byteText, ByteArray.size]
set_option maxRecDepth 100000 in
theorem places_pot (f : Int) (s : Nat) : ∀ (L : List (List Nat)) (n : Nat), ((placesF n L).map fun x => (f, byteText x.1, (x.2 : Int) - (s : Int))).length + sumT ((placesF n L).map fun x => (f, byteText x.1, (x.2 : Int) - (s : Int))) ≤ potL L
  | [], n => by simp [placesF, sumT, potL]
  | t :: L, n => by
    have h := places_pot f s L (n + 1)
    rw [placesF, potL]
    split
    · omega
    · rw [List.map_cons, List.length_cons, sumT]
      simp only [text_size]
      omega
set_option maxRecDepth 100000 in
theorem wt_leafNd (f : Int) (q : List Nat) : wtN (leafNd f q) ≤ 4 * q.length + 2 := by
  have h1 := cut_pot q []
  have h2 := places_pot f (firstP (wordsR q)) (allR q) 0
  unfold leafNd
  rw [wtN, wtK]
  have e : leafW f (wordsR q) = (placesF 0 (allR q)).map fun x => (f, byteText x.1, (x.2 : Int) - (firstP (wordsR q) : Int)) := rfl
  rw [← e] at h2
  rw [allR_cut] at h2
  unfold cutL at h2
  simp at h1
  omega
set_option maxRecDepth 100000 in
theorem wtK_append (a b : List Nd) : wtK (a ++ b) = wtK a + wtK b := by
  induction a with
  | nil => simp [wtK]
  | cons x a ih => rw [List.cons_append, wtK, wtK, ih]; omega
set_option maxRecDepth 100000 in
theorem wt_join (kind : Int) {ps : List Nd} (hp : ps ≠ []) : wtN (joinN kind ps) + 2 ≤ wtK ps + 2 * ps.length := by
  match ps, hp with
  | [x], _ => simp [joinN, wtK]
  | x :: y :: l, _ => rw [join_many, wtN]; simp [sumT]; omega
def WtP (p : List Nat → PR Nd) : Prop := ∀ l t l', p l = .ok t l' → wtN t + 2 + 8 * l'.length ≤ 8 * l.length
set_option maxRecDepth 100000 in
theorem wt_leaf (k : Nat) : WtP (leafP k) := by
  intro l t l' h
  have hf := field_le l
  unfold leafP at h
  split at h
  · rename_i hq
    obtain ⟨q, h1, rfl⟩ := map_ok h
    have h3 := skipB_le (fieldP l).2
    rw [headZ_cons hq (by omega)] at h3
    simp only [List.length_cons] at h3
    have hw := wt_leafNd (fieldP l).1 q
    unfold phraseP at h1
    split at h1
    · rename_i hm
      injection h1 with h4 h5
      have e := congrArg List.length (List.takeWhile_append_dropWhile (p := (· != 34)) (l := (skipB (fieldP l).2).drop 1))
      rw [List.length_append, h4] at e
      rw [← h5, List.length_drop]
      omega
    · cases h1
  · obtain ⟨q, h1, rfl⟩ := map_ok h
    have hw := wt_leafNd (fieldP l).1 q
    unfold wordP at h1
    split at h1
    · cases h1
    · rename_i hc
      obtain ⟨c, r, hl, hb⟩ := headZ_let hc
      injection h1 with h4 h5
      have h3 := skipB_le (fieldP l).2
      have e := congrArg List.length (List.takeWhile_append_dropWhile (p := letB) (l := skipB (fieldP l).2))
      rw [List.length_append, h4, h5] at e
      have hq : 1 ≤ q.length := by rw [← h4, hl, List.takeWhile_cons, if_pos hb]; simp
      omega
set_option maxRecDepth 100000 in
theorem wt_and (k : Nat) (hn : WtP (notP k)) : ∀ (n : Nat) (ps : List Nd) (l : List Nat) (t : Nd) (l' : List Nat) (M : Nat), l.length ≤ n → ps ≠ [] → wtK ps + 2 * ps.length + 8 * l.length ≤ M → andR k ps l = .ok t l' → wtN t + 2 + 8 * l'.length ≤ M
  | n, ps, l, t, l', M, hl, hp, hm, h => by
    have hs := skipB_le l
    have hd := List.length_drop (i := 1) (l := skipB l)
    rw [andR_step] at h
    have key : ∀ m : List Nat, m.length ≤ l.length → ((notP k m).bind fun n l' => andR k (ps ++ [n]) l') = .ok t l' → wtN t + 2 + 8 * l'.length ≤ M := fun m hm2 h => by
      obtain ⟨a, l1, e1, e2⟩ := bind_ok h
      have h4 := hn _ _ _ e1
      match n, hl with
      | 0, hl => omega
      | n + 1, hl =>
        refine wt_and k hn n (ps ++ [a]) l1 t l' M (by omega) (by simp) ?_ e2
        rw [wtK_append, List.length_append, wtK, wtK, List.length_singleton]
        omega
    split at h
    · exact key _ (by omega) h
    · split at h
      · exact key _ hs h
      · injection h with h1 h2
        subst h1 h2
        have := wt_join 2 hp
        omega
set_option maxRecDepth 100000 in
theorem wt_and' (k : Nat) (hn : WtP (notP k)) : WtP (andP (notP k)) := by
  intro l t l' h
  rw [andP_eq] at h
  obtain ⟨a, l1, e1, e2⟩ := bind_ok h
  have h4 := hn _ _ _ e1
  refine wt_and k hn _ [a] l1 t l' _ (Nat.le_refl _) (by simp) ?_ e2
  rw [wtK, wtK, List.length_singleton]
  omega
set_option maxRecDepth 100000 in
theorem wt_or (k : Nat) (hn : WtP (notP k)) : ∀ (n : Nat) (ps : List Nd) (l : List Nat) (t : Nd) (l' : List Nat) (M : Nat), l.length ≤ n → ps ≠ [] → wtK ps + 2 * ps.length + 8 * l.length ≤ M → orR k ps l = .ok t l' → wtN t + 2 + 8 * l'.length ≤ M
  | n, ps, l, t, l', M, hl, hp, hm, h => by
    have hs := skipB_le l
    have hd := List.length_drop (i := 1) (l := skipB l)
    rw [orR_step] at h
    split at h
    · obtain ⟨a, l1, e1, e2⟩ := bind_ok h
      have h4 := wt_and' k hn _ _ _ e1
      match n, hl with
      | 0, hl => omega
      | n + 1, hl =>
        refine wt_or k hn n (ps ++ [a]) l1 t l' M (by omega) (by simp) ?_ e2
        rw [wtK_append, List.length_append, wtK, wtK, List.length_singleton]
        omega
    · injection h with h1 h2
      subst h1 h2
      have := wt_join 3 hp
      omega
set_option maxRecDepth 100000 in
theorem wt_or' (k : Nat) (hn : WtP (notP k)) : WtP (orP (andP (notP k))) := by
  intro l t l' h
  rw [orP_eq] at h
  obtain ⟨a, l1, e1, e2⟩ := bind_ok h
  have h4 := wt_and' k hn _ _ _ e1
  refine wt_or k hn _ [a] l1 t l' _ (Nat.le_refl _) (by simp) ?_ e2
  rw [wtK, wtK, List.length_singleton]
  omega
set_option maxRecDepth 100000 in
theorem wt_not : ∀ (k : Nat), WtP (notP k)
  | 0 => by
    intro l t l' h
    have hs := skipB_le l
    rw [notP] at h
    split at h
    · cases h
    · have := wt_leaf 0 _ _ _ h
      omega
  | k + 1 => by
    intro l t l' h
    have hs := skipB_le l
    have hne : ∀ c : Int, headZ (skipB l) = c → 0 ≤ c → ((skipB l).drop 1).length + 1 ≤ l.length := fun c hc h0 => by
      rw [headZ_cons hc h0] at hs
      simpa using hs
    rw [notP] at h
    split at h
    · rename_i hc
      have := hne _ hc (by decide)
      obtain ⟨a, e, rfl⟩ := map_ok h
      have h4 := wt_not k _ _ _ e
      rw [wtN, wtK, wtK]
      simp only [List.length_nil, sumT]
      omega
    · split at h
      · rename_i hc
        have := hne _ hc (by decide)
        obtain ⟨a, l1, e1, e2⟩ := bind_ok h
        have h4 := wt_or' k (wt_not k) _ _ _ e1
        have hs1 := skipB_le l1
        have hd := List.length_drop (i := 1) (l := skipB l1)
        split at e2
        · injection e2 with h5 h6
          subst h5 h6
          omega
        · cases e2
      · have := wt_leaf (k + 1) _ _ _ h
        omega
set_option maxRecDepth 100000 in
theorem wt_parse {l l' : List Nat} {x : Nd × Opt} (h : parseR l = .ok x l') : wtN x.1 ≤ 8 * l.length := by
  rw [parseR_eq] at h
  obtain ⟨n, l1, h1, h2⟩ := bind_ok h
  obtain ⟨o, h3, rfl⟩ := map_ok h2
  have := wt_or' 8 (wt_not 8) _ _ _ h1
  simp only
  omega
set_option maxRecDepth 100000 in
theorem wt_x (s : ByteArray) : wtN (parseX s).1.1 < 3000 := by
  unfold parseX
  split
  · simp [zeroNode, wtN, wtK, sumT]
  · have hr := (runesOf_many s).1
    split
    · rename_i x l' h
      have := wt_parse h
      simp only
      omega
    · simp [zeroNode, wtN, wtK, sumT]
end Go.Proofs.YthkpaelpnofbgaaGreatDoor
/-
  What isn't read is refused with an error that isn't nought. Without the program's text.
-/
namespace Go.Proofs.YthkpaelpnofbgaaGreatDoor

set_option maxRecDepth 100000 in
theorem bind_err {α β : Type} {g : α → List Nat → PR β} {x : PR α} {e : Int} (h : x.bind g = .err e) : x = .err e ∨ ∃ a l1, x = .ok a l1 ∧ g a l1 = .err e := by
  cases x with
  | ok a l1 => exact .inr ⟨a, l1, rfl, h⟩
  | err c => left; injection h with h1; rw [h1]
set_option maxRecDepth 100000 in
theorem map_err {α β : Type} {g : α → β} {x : PR α} {e : Int} (h : x.map g = .err e) : x = .err e := by
  cases x with
  | ok a l1 => cases h
  | err c => injection h with h1; rw [h1]
def NzP {α : Type} (p : List Nat → PR α) : Prop := ∀ l, p l ≠ .err 0
set_option maxRecDepth 100000 in
theorem fail_ne (k : Nat) (l : List Nat) : failE k l ≠ 0 := by unfold failE; split <;> decide
set_option maxRecDepth 100000 in
theorem err_fail {α : Type} {k : Nat} {l : List Nat} (h : (PR.err (failE k l) : PR α) = .err 0) : False := by injection h with h1; exact fail_ne k l h1
set_option maxRecDepth 100000 in
theorem nz_word (k : Nat) : NzP (wordP k) := by
  intro l h
  unfold wordP at h
  split at h
  · exact err_fail h
  · cases h
set_option maxRecDepth 100000 in
theorem nz_leaf (k : Nat) : NzP (leafP k) := by
  intro l h
  unfold leafP at h
  split at h
  · have h1 := map_err h
    unfold phraseP at h1
    split at h1
    · cases h1
    · injection h1 with h2; exact absurd h2 (by decide)
  · exact nz_word k _ (map_err h)
set_option maxRecDepth 100000 in
theorem nz_and (k : Nat) (hn : NzP (notP k)) : ∀ (n : Nat) (ps : List Nd) (l : List Nat), l.length ≤ n → andR k ps l ≠ .err 0
  | n, ps, l, hl, h => by
    have hs := skipB_le l
    have hd := List.length_drop (i := 1) (l := skipB l)
    rw [andR_step] at h
    have key : ∀ m : List Nat, m.length ≤ l.length → ((notP k m).bind fun n l' => andR k (ps ++ [n]) l') = .err 0 → False := fun m hm2 h => by
      rcases bind_err h with h | ⟨a, l1, e1, e2⟩
      · exact hn _ h
      have h4 := not_less k _ _ _ e1
      match n, hl with
      | 0, hl => omega
      | n + 1, hl => exact nz_and k hn n (ps ++ [a]) l1 (by omega) e2
    split at h
    · exact key _ (by omega) h
    · split at h
      · exact key _ hs h
      · cases h
set_option maxRecDepth 100000 in
theorem nz_and' (k : Nat) (hn : NzP (notP k)) : NzP (andP (notP k)) := by
  intro l h
  rw [andP_eq] at h
  rcases bind_err h with h | ⟨a, l1, e1, e2⟩
  · exact hn _ h
  · exact nz_and k hn _ _ l1 (Nat.le_refl _) e2
set_option maxRecDepth 100000 in
theorem nz_or (k : Nat) (hn : NzP (notP k)) : ∀ (n : Nat) (ps : List Nd) (l : List Nat), l.length ≤ n → orR k ps l ≠ .err 0
  | n, ps, l, hl, h => by
    have hs := skipB_le l
    have hd := List.length_drop (i := 1) (l := skipB l)
    rw [orR_step] at h
    split at h
    · rcases bind_err h with h | ⟨a, l1, e1, e2⟩
      · exact nz_and' k hn _ h
      have h4 := and_less (not_less k) _ _ _ e1
      match n, hl with
      | 0, hl => omega
      | n + 1, hl => exact nz_or k hn n (ps ++ [a]) l1 (by omega) e2
    · cases h
set_option maxRecDepth 100000 in
theorem nz_or' (k : Nat) (hn : NzP (notP k)) : NzP (orP (andP (notP k))) := by
  intro l h
  rw [orP_eq] at h
  rcases bind_err h with h | ⟨a, l1, e1, e2⟩
  · exact nz_and' k hn _ h
  · exact nz_or k hn _ _ l1 (Nat.le_refl _) e2
set_option maxRecDepth 100000 in
theorem nz_not : ∀ (k : Nat), NzP (notP k)
  | 0 => by
    intro l h
    rw [notP] at h
    split at h
    · injection h with h1; exact absurd h1 (by decide)
    · exact nz_leaf 0 _ h
  | k + 1 => by
    intro l h
    rw [notP] at h
    split at h
    · exact nz_not k _ (map_err h)
    · split at h
      · rcases bind_err h with h | ⟨a, l1, e1, e2⟩
        · exact nz_or' k (nz_not k) _ h
        · split at e2
          · cases e2
          · exact err_fail e2
      · exact nz_leaf (k + 1) _ h
set_option maxRecDepth 100000 in
theorem nz_opt : ∀ (n : Nat) (o : Opt) (l : List Nat), l.length ≤ n → optR o l ≠ .err 0
  | n, o, l, hl, h => by
    have hs := skipB_le l
    have hd := List.length_drop (i := 1) (l := skipB l)
    rw [optR_step] at h
    split at h
    · rcases bind_err h with h | ⟨a, l1, e1, e2⟩
      · rcases bind_err h with h | ⟨a, l1, e1, e2⟩
        · exact nz_word 8 _ h
        · split at e2
          · exact err_fail e2
          · cases e2
      have h4 := limit_less _ _ _ e1
      match n, hl with
      | 0, hl => omega
      | n + 1, hl => exact nz_opt n _ l1 (by omega) e2
    · split at h
      · rcases bind_err h with h | ⟨a, l1, e1, e2⟩
        · rcases bind_err h with h | ⟨a, l1, e1, e2⟩
          · exact nz_word 8 _ h
          · split at e2
            · cases e2
            · split at e2
              · cases e2
              · exact err_fail e2
        have h4 := order_less _ _ _ e1
        match n, hl with
        | 0, hl => omega
        | n + 1, hl => exact nz_opt n _ l1 (by omega) e2
      · split at h
        · cases h
        · exact err_fail h
set_option maxRecDepth 100000 in
theorem nz_parse : NzP parseR := by
  intro l h
  rw [parseR_eq] at h
  rcases bind_err h with h | ⟨a, l1, e1, e2⟩
  · exact nz_or' 8 (nz_not 8) _ h
  · exact nz_opt _ _ l1 (Nat.le_refl _) (map_err e2)
end Go.Proofs.YthkpaelpnofbgaaGreatDoor
/-
  What layer 17's statement of what is shown and read again comes to, without the program's text.
-/
namespace Go.Proofs.YthkpaelpnofbgaaGreatDoor

set_option maxRecDepth 100000 in
theorem back_x (x : Nd) (lim ord : Int) (h : (showX x lim ord).2 = 0) : (showX x lim ord).1.size ≤ 1000000 ∧ ∃ o, parseX (showX x lim ord).1 = ((x, o), 0) ∧ o.lim = lim ∧ o.ord = ord := by
  unfold showX at h ⊢
  split at h
  · rename_i hm
    split at h
    · cases h
    · rename_i hl
      have hz : (byteText (wholeR bytesL x lim ord)).size ≤ 256 := by rw [text_size]; omega
      obtain ⟨o, h1, h2, h3⟩ := shown_back x lim ord hm
      rw [if_pos hm, if_neg hl]
      refine ⟨by simp only; omega, o, ?_, h2, h3⟩
      unfold parseX
      rw [if_neg (by simp only; omega)]
      simp only
      rw [h1]
  · cases h
set_option maxRecDepth 100000 in
theorem may_x (s : ByteArray) (h : (parseX s).2 = 0) : mayQ (parseX s).1.1 (parseX s).1.2.lim (parseX s).1.2.ord = true := by
  unfold parseX at h ⊢
  split
  · rename_i hl
    rw [if_pos hl] at h
    cases h
  · rename_i hl
    rw [if_neg hl] at h
    have hr := (runesOf_many s).1
    cases e : parseR (runesOf s) with
    | ok x l' => exact (parse_may (t := x.1) (o := x.2) ⟨by omega, runesOf_ok s⟩ e).1
    | err c =>
      rw [e] at h
      simp only at h
      subst h
      exact absurd e (nz_parse _)
set_option maxRecDepth 100000 in
theorem shown_x {x : Nd} {lim ord : Int} (h : mayQ x lim ord = true) : (showX x lim ord).2 = 0 ∨ (showX x lim ord).2 = 4 := by
  unfold showX
  rw [if_pos h]
  split
  · exact .inr rfl
  · exact .inl rfl
end Go.Proofs.YthkpaelpnofbgaaGreatDoor
/-
  The program's and the reference's answers of queries whose six parts stand open. Over the program's own text.
-/
namespace Go.Proofs.YthkpaelpnofbgaaGreatDoor
open Go.RowKit

set_option maxRecDepth 100000 in
theorem qry_six (k f : Int) (ta ka : Option Addr) (tn tc kn kc : Nat) (l o : Int) : (qryC (k, f, .slice ta tn tc, .slice ka kn kc) l o).toArray = #[.int .i64 k, .int .u8 f, .slice ta tn tc, .slice ka kn kc, .int .i64 l, .int .i64 o] := rfl
set_option maxRecDepth 100000 in
theorem show_six (y : Nd) (hw : wtN y < 3000) (w : World) (S : Nat → Prop) (k f : Int) (ta ka : Option Addr) (tn tc kn kc : Nat) (l o : Int) (h : RdN w S y (k, f, .slice ta tn tc, .slice ka kn kc)) (hT : TabsIn w) :
    Calls Tryz.prog 7 #[.agg #[.int .i64 k, .int .u8 f, .slice ta tn tc, .slice ka kn kc, .int .i64 l, .int .i64 o]] w fun e w' => e = .returned (.tuple #[.string (showX y l o).1, .int .i64 (showX y l o).2]) ∧ Below w.heap.size w w' := by
  rw [← qry_six]
  exact prog_show y (Nat.le_of_lt hw) w S _ l o h hT
set_option maxRecDepth 100000 in
theorem may_six (y : Nd) (hw : wtN y < 3000) (w : World) (S : Nat → Prop) (k f : Int) (ta ka : Option Addr) (tn tc kn kc : Nat) (l o : Int) (h : RdN w S y (k, f, .slice ta tn tc, .slice ka kn kc)) :
    Calls Tryz.prog 11 #[.agg #[.int .i64 k, .int .u8 f, .slice ta tn tc, .slice ka kn kc, .int .i64 l, .int .i64 o]] w fun e w' => e = .returned (.bool (mayQ y l o)) ∧ Below w.heap.size w w' := by
  rw [← qry_six]
  exact ref_may y (Nat.le_of_lt hw) w S _ l o h
set_option maxRecDepth 100000 in
theorem same_six (y : Nd) (hf : FewN y) (w : World) (S S' : Nat → Prop) (k f : Int) (ta ka : Option Addr) (tn tc kn kc : Nat) (k' f' : Int) (ta' ka' : Option Addr) (tn' tc' kn' kc' : Nat) (l o : Int) (h : RdN w S y (k, f, .slice ta tn tc, .slice ka kn kc)) (h' : RdN w S' y (k', f', .slice ta' tn' tc', .slice ka' kn' kc')) :
    Calls Tryz.prog 10 #[.agg #[.int .i64 k, .int .u8 f, .slice ta tn tc, .slice ka kn kc, .int .i64 l, .int .i64 o], .agg #[.int .i64 k', .int .u8 f', .slice ta' tn' tc', .slice ka' kn' kc', .int .i64 l, .int .i64 o]] w fun e w' => e = .returned (.bool true) ∧ Below w.heap.size w w' := by
  rw [← qry_six, ← qry_six]
  exact same_query w S S' y l o hf _ _ h h'
set_option maxRecDepth 100000 in
theorem qry_cells {w : World} {q : Nat} {k f : Int} {ta ka : Option Addr} {tn tc kn kc : Nat} {l o : Int} (h : w.heap[q]? = some (.cells #[.int .i64 k, .int .u8 f, .slice ta tn tc, .slice ka kn kc, .int .i64 l, .int .i64 o] 27 (0, 0))) :
    w.cell? ⟨q, 0, none⟩ = some (.int .i64 k) ∧ w.cell? ⟨q, 1, none⟩ = some (.int .u8 f) ∧ w.cell? ⟨q, 2, none⟩ = some (.slice ta tn tc) ∧ w.cell? ⟨q, 3, none⟩ = some (.slice ka kn kc) ∧ w.cell? ⟨q, 4, none⟩ = some (.int .i64 l) ∧ w.cell? ⟨q, 5, none⟩ = some (.int .i64 o) :=
  ⟨(cell_at h 0).trans rfl, (cell_at h 1).trans rfl, (cell_at h 2).trans rfl, (cell_at h 3).trans rfl, (cell_at h 4).trans rfl, (cell_at h 5).trans rfl⟩
set_option maxRecDepth 100000 in
/-- What is read, its six parts open. -/
theorem parse_at (w : World) (s : ByteArray) (hT : TQ w) (hs : s.size ≤ 1000000) (y : Nd) (op : Opt) (l o c : Int) (hy : parseX s = ((y, op), c)) (hl : op.lim = l) (ho : op.ord = o) :
    Calls Tryz.prog 9 #[.string s] w fun e w' => ∃ k f ta tn tc ka kn kc, e = .returned (.tuple #[.agg #[.int .i64 k, .int .u8 f, .slice ta tn tc, .slice ka kn kc, .int .i64 l, .int .i64 o], .int .i64 c]) ∧ RdN w' (fromB w.heap.size) y (k, f, .slice ta tn tc, .slice ka kn kc) ∧ Below w.heap.size w w' := by
  refine (parse_any w s hT.1 hT.2 hs).mono ?_
  rw [hy]
  rintro e w' ⟨v, rfl, ⟨⟨k, f, tv, kv⟩, rfl, hr⟩, hb⟩
  obtain ⟨ta, tn, tc, ka, kn, kc, rfl, rfl⟩ := hr.slices
  simp only
  rw [qry_six, hl, ho]
  exact ⟨k, f, ta, tn, tc, ka, kn, kc, rfl, hr, hb⟩
end Go.Proofs.YthkpaelpnofbgaaGreatDoor
/-
  Layer 17: what is shown is read as it, what is read may be: the statement's own walk. Over the program's own text.
-/
namespace Go.Proofs.YthkpaelpnofbgaaGreatDoor
open Go.RowKit

set_option maxRecDepth 100000 in
set_option maxHeartbeats 8000000 in
theorem back17 (w : World) (hT : TQ w) (x : Nd) (r : Rn) (lim ord : Int) (h : RdN w (fun _ => True) x r) (hre : ReachN x) (s : ByteArray) (hs : (s.size : Int) ≤ 9223372036854775807) :
    Calls Tryz.prog 4 #[.agg (qryC r lim ord).toArray, .string s] w fun e w' => e = .returned (.bool true) ∧ Below w.heap.size w w' := by
  have HG := Lib.hid (fun wx (hb : Below w.heap.size w wx) => great2_any wx _ x r (h.after hb) hre)
  have HF := Lib.hid (fun wx (hb : Below w.heap.size w wx) => fixed17 wx (hT.below hb))
  have HT := Lib.hid (fun wx (hb : Below w.heap.size w wx) => hT.below hb)
  obtain ⟨k5, f5, tv5, kv5⟩ := r
  obtain ⟨ta5, tn5, tc5, ka5, kn5, kc5, rfl, rfl⟩ := h.slices
  have HX := Lib.hid h
  clear h hT hre
  rw [show rnV (k5, f5, .slice ta5 tn5 tc5, .slice ka5 kn5 kc5) = .agg #[.int .i64 k5, .int .u8 f5, .slice ta5 tn5 tc5, .slice ka5 kn5 kc5] from rfl] at HG
  rw [qry_six]
  obtain ⟨X, hX⟩ : ∃ X : Obj, X = .cells #[.int .i64 k5, .int .u8 f5, .slice ta5 tn5 tc5, .slice ka5 kn5 kc5, .int .i64 lim, .int .i64 ord] 27 := ⟨_, rfl⟩
  have hx1 : (w.alloc X).heap[w.heap.size]? = some (.cells #[.int .i64 k5, .int .u8 f5, .slice ta5 tn5 tc5, .slice ka5 kn5 kc5, .int .i64 lim, .int .i64 ord] 27 (0, 0)) := by rw [heap_alloc_new w X, hX]
  have HB1 := Lib.hid (And.intro (below_one (w := w) (A := X)) hx1)
  obtain ⟨c0, c1, c2, c3, c4, c5⟩ := qry_cells hx1
  clear hx1
  by_cases hl : (2000 : Int) < (s.size : Int)
  case pos =>
    go_enter Tryz.func4, Tryz.ntmps4
    go_upto_region 1 with fail
    rw [← hX]
    clear hX
    generalize w.alloc X = w1 at HB1 c0 c1 c2 c3 c4 c5 ⊢
    go_wp2_with fail
    refine (HG.out w1 HB1.out.1).mono ?_
    rintro e w2 ⟨⟨b, rfl, hb⟩, hlow⟩
    have HB2 := Lib.hid (low_more HB1.out.1 hlow)
    clear hlow hb c0 c1 c2 c3 c4 c5
    cases b
    all_goals
      go_wp2_with fail
      refine (HF.out w2 HB2.out).mono ?_
      rintro e w3 ⟨rfl, hb3⟩
      have HB3 := Lib.hid (low_more HB2.out hb3)
      clear hb3
      go_wp2_with fail
      go_ret
      exact ⟨rfl, HB3.out⟩
  have HZ := Lib.hid (show s.size ≤ 1000000 by omega)
  go_enter Tryz.func4, Tryz.ntmps4
  go_upto_region 1 with fail
  rw [← hX]
  clear hX
  generalize w.alloc X = w1 at HB1 c0 c1 c2 c3 c4 c5 ⊢
  go_wp2_with fail
  refine (HG.out w1 HB1.out.1).mono ?_
  rintro e w2 ⟨⟨b, rfl, hb⟩, hlow⟩
  have HB2 := Lib.hid (And.intro (low_more HB1.out.1 hlow) (blk_low HB1.out.2 hlow))
  have HW := Lib.hid hb
  clear hlow hb c0 c1 c2 c3 c4 c5
  cases b
  case true =>
    go_wp2_with fail
    refine (HF.out w2 HB2.out.1).mono ?_
    rintro e w3 ⟨rfl, hb3⟩
    have HB3 := Lib.hid (low_more HB2.out.1 hb3)
    clear hb3
    go_wp2_with fail
    go_ret
    exact ⟨rfl, HB3.out⟩
  have HWt := Lib.hid (HW.out rfl).2
  have HFw := Lib.hid (HW.out rfl).1
  clear HW HG
  obtain ⟨c0, c1, c2, c3, c4, c5⟩ := qry_cells HB2.out.2
  go_upto_region 3 with fail
  clear hl hs
  have HSg := Lib.hid (show_six x HWt.out w2 _ k5 f5 ta5 ka5 tn5 tc5 kn5 kc5 lim ord (HX.out.after HB2.out.1) (HT.out w2 HB2.out.1).1)
  have HBk := Lib.hid (back_x x lim ord)
  generalize showX x lim ord = res at HSg HBk
  obtain ⟨t, e0⟩ := res
  simp only at HSg HBk
  obtain ⟨⟨⟨y, op⟩, c⟩, hy⟩ : ∃ z, parseX s = z := ⟨_, rfl⟩
  have HY := Lib.hid hy
  have HMay := Lib.hid (may_x s)
  have HWy := Lib.hid (wt_x s)
  have HFy := Lib.hid (few_x (s := s))
  rw [hy] at HMay HWy HFy
  simp only at HMay HWy HFy
  obtain ⟨l6, hl6⟩ : ∃ l6, op.lim = l6 := ⟨_, rfl⟩
  obtain ⟨m6, hm6⟩ : ∃ m6, op.ord = m6 := ⟨_, rfl⟩
  rw [hl6, hm6] at HMay
  have HL6 := Lib.hid (And.intro hl6 hm6)
  clear hy hl6 hm6
  go_wp2_with fail
  refine HSg.out.mono ?_
  rintro e w3 ⟨rfl, hb3⟩
  have HB3 := Lib.hid (And.intro (low_more HB2.out.1 hb3) (blk_low HB2.out.2 hb3))
  clear hb3 c0 c1 c2 c3 c4 c5 HSg HB2
  rcases Decidable.em (e0 = 0) with he | he
  case' inr =>
    have HB8 := Lib.hid HB3.out.1
    clear HB3 HBk
    go_upto_region 8 with fail
    clear he
    generalize w3 = w8 at HB8 ⊢
  case' inl =>
    subst he
    obtain ⟨hz, o, ho, h1, h2⟩ := HBk.out rfl
    have HO := Lib.hid (And.intro hz (And.intro ho (And.intro h1 h2)))
    clear hz ho h1 h2 HBk
    go_wp2_with fail
    refine (parse_at w3 t (HT.out w3 HB3.out.1) HO.out.1 x o lim ord 0 HO.out.2.1 HO.out.2.2.1 HO.out.2.2.2).mono ?_
    rintro e w4 ⟨k6, f6, ta6, tn6, tc6, ka6, kn6, kc6, rfl, hr6, hb4⟩
    obtain ⟨Y, hY⟩ : ∃ Y : Obj, Y = .cells #[.int .i64 k6, .int .u8 f6, .slice ta6 tn6 tc6, .slice ka6 kn6 kc6, .int .i64 lim, .int .i64 ord] 27 := ⟨_, rfl⟩
    have hb5 := hb4.alloc hb4.size Y
    have HB5 := Lib.hid (And.intro (low_more HB3.out.1 hb5) (And.intro (blk_low HB3.out.2 hb5) (heap_alloc_new w4 Y)))
    have HR6 := Lib.hid (hr6.after (below_one (w := w4) (A := Y)))
    clear hb4 hb5 hr6 HB3 HO
    go_upto_region 6 with fail
    rw [← hY]
    generalize w4.heap.size = q1 at HB5 HR6 ⊢
    generalize w4.alloc Y = w5 at HB5 HR6 ⊢
    rw [hY] at HB5
    clear w4 hY
    obtain ⟨c0, c1, c2, c3, c4, c5⟩ := qry_cells HB5.out.2.1
    obtain ⟨d0, d1, d2, d3, d4, d5⟩ := qry_cells HB5.out.2.2
    go_wp2_with fail
    refine (same_six x HFw.out w5 _ _ k6 f6 ta6 ka6 tn6 tc6 kn6 kc6 k5 f5 ta5 ka5 tn5 tc5 kn5 kc5 lim ord HR6.out (HX.out.after HB5.out.1)).mono ?_
    rintro e w8 ⟨rfl, hb6⟩
    have HB8 := Lib.hid (low_more HB5.out.1 hb6)
    clear hb6 HB5 HR6 c0 c1 c2 c3 c4 c5 d0 d1 d2 d3 d4 d5
    go_upto_region 8 with fail
  all_goals
    clear HX HWt HFw
    go_wp2_with fail
    refine (parse_at w8 s (HT.out w8 HB8.out) HZ.out y op l6 m6 c HY.out HL6.out.1 HL6.out.2).mono ?_
    rintro e w9 ⟨k7, f7, ta7, tn7, tc7, ka7, kn7, kc7, rfl, hr7, hb9⟩
    obtain ⟨Y, hY⟩ : ∃ Y : Obj, Y = .cells #[.int .i64 k7, .int .u8 f7, .slice ta7 tn7 tc7, .slice ka7 kn7 kc7, .int .i64 l6, .int .i64 m6] 27 := ⟨_, rfl⟩
    have hb5 := hb9.alloc hb9.size Y
    have HB9 := Lib.hid (And.intro (low_more HB8.out hb5) (heap_alloc_new w9 Y))
    have HR7 := Lib.hid (hr7.after (below_one (w := w9) (A := Y)))
    clear hb9 hb5 hr7 HB8 HY HL6 HZ
    go_upto_region 9 with fail
    rw [← hY]
    generalize w9.heap.size = q2 at HB9 HR7 ⊢
    generalize w9.alloc Y = w10 at HB9 HR7 ⊢
    rw [hY] at HB9
    clear w9 hY
    rcases Decidable.em (c = 0) with hc | hc
    case' inr =>
      clear HMay HWy HFy
      go_wp2_with fail
      refine (HF.out w10 HB9.out.1).mono ?_
      rintro e w11 ⟨rfl, hb11⟩
      have HB11 := Lib.hid (low_more HB9.out.1 hb11)
      clear hb11
      go_wp2_with fail
      go_ret
      exact ⟨rfl, HB11.out⟩
    subst hc
    have HQ := Lib.hid (HMay.out rfl)
    have HSg := Lib.hid (show_six y HWy.out w10 _ k7 f7 ta7 ka7 tn7 tc7 kn7 kc7 l6 m6 HR7.out (HT.out w10 HB9.out.1).1)
    have HSh := Lib.hid (shown_x HQ.out)
    have HBk := Lib.hid (back_x y l6 m6)
    generalize showX y l6 m6 = res at HSg HBk HSh
    obtain ⟨t2, e2⟩ := res
    simp only at HSg HBk HSh
    clear HMay
    obtain ⟨c0, c1, c2, c3, c4, c5⟩ := qry_cells HB9.out.2
    go_wp2_with fail
    refine HSg.out.mono ?_
    rintro e w11 ⟨rfl, hb11⟩
    have HB11 := Lib.hid (And.intro (low_more HB9.out.1 hb11) (blk_low HB9.out.2 hb11))
    have HR8 := Lib.hid (HR7.out.after hb11)
    clear hb11 HSg HB9 HR7 c0 c1 c2 c3 c4 c5
    obtain he | he := HSh.out
    case' inr =>
      subst he
      clear HBk HSh
      go_wp2_with fail
      refine (HF.out w11 HB11.out.1).mono ?_
      rintro e w12 ⟨rfl, hb12⟩
      have HB12 := Lib.hid (And.intro (low_more HB11.out.1 hb12) (blk_low HB11.out.2 hb12))
      have HR9 := Lib.hid (HR8.out.after hb12)
      clear hb12 HR8 HB11
      obtain ⟨c0, c1, c2, c3, c4, c5⟩ := qry_cells HB12.out.2
      have HMq := Lib.hid (may_six y HWy.out w12 _ k7 f7 ta7 ka7 tn7 tc7 kn7 kc7 l6 m6 HR9.out)
      rw [HQ.out] at HMq
      go_wp2_with fail
      refine HMq.out.mono ?_
      rintro e w13 ⟨rfl, hb13⟩
      have HB13 := Lib.hid (low_more HB12.out.1 hb13)
      clear hb13 c0 c1 c2 c3 c4 c5
      go_wp2_with fail
      go_ret
      exact ⟨rfl, HB13.out⟩
    subst he
    obtain ⟨hz, o2, ho, h1, h2⟩ := HBk.out rfl
    have HO := Lib.hid (And.intro hz (And.intro ho (And.intro h1 h2)))
    clear hz ho h1 h2 HBk HSh HQ HWy
    go_wp2_with fail
    refine (parse_at w11 t2 (HT.out w11 HB11.out.1) HO.out.1 y o2 l6 m6 0 HO.out.2.1 HO.out.2.2.1 HO.out.2.2.2).mono ?_
    rintro e w12 ⟨k8, f8, ta8, tn8, tc8, ka8, kn8, kc8, rfl, hr8, hb12⟩
    obtain ⟨Y, hY⟩ : ∃ Y : Obj, Y = .cells #[.int .i64 k8, .int .u8 f8, .slice ta8 tn8 tc8, .slice ka8 kn8 kc8, .int .i64 l6, .int .i64 m6] 27 := ⟨_, rfl⟩
    have hb5 := hb12.alloc hb12.size Y
    have HB12 := Lib.hid (And.intro (low_more HB11.out.1 hb5) (And.intro (blk_low HB11.out.2 hb5) (heap_alloc_new w12 Y)))
    have HR9 := Lib.hid (And.intro (hr8.after (below_one (w := w12) (A := Y))) (HR8.out.after hb5))
    clear hb12 hb5 hr8 HB11 HO HR8
    go_upto_region 15 with fail
    rw [← hY]
    generalize w12.heap.size = q3 at HB12 HR9 ⊢
    generalize w12.alloc Y = w13 at HB12 HR9 ⊢
    rw [hY] at HB12
    clear w12 hY
    go_wp2_with fail
    refine (HF.out w13 HB12.out.1).mono ?_
    rintro e w14 ⟨rfl, hb14⟩
    have HB14 := Lib.hid (And.intro (low_more HB12.out.1 hb14) (And.intro (blk_low HB12.out.2.1 hb14) (blk_low HB12.out.2.2 hb14)))
    have HR10 := Lib.hid (And.intro (HR9.out.1.after hb14) (HR9.out.2.after hb14))
    clear hb14 HB12 HR9
    obtain ⟨c0, c1, c2, c3, c4, c5⟩ := qry_cells HB14.out.2.1
    obtain ⟨d0, d1, d2, d3, d4, d5⟩ := qry_cells HB14.out.2.2
    go_wp2_with fail
    refine (same_six y HFy.out w14 _ _ k8 f8 ta8 ka8 tn8 tc8 kn8 kc8 k7 f7 ta7 ka7 tn7 tc7 kn7 kc7 l6 m6 HR10.out.1 HR10.out.2).mono ?_
    rintro e w15 ⟨rfl, hb15⟩
    have HB15 := Lib.hid (low_more HB14.out.1 hb15)
    clear hb15 c0 c1 c2 c3 c4 c5 d0 d1 d2 d3 d4 d5
    go_wp2_with fail
    go_ret
    exact ⟨rfl, HB15.out⟩
end Go.Proofs.YthkpaelpnofbgaaGreatDoor
