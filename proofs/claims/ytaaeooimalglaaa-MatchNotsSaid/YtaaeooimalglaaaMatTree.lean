/-
  What a tree finds, without the program's text.
-/
import Derived.Test.YtaaeooimalglaaaMatPure
namespace Go.Proofs.Ytaaeooimalglaaa

/-- Has a leaf's list a document? -/
def hasF (l : List Fo) (d : Int) : Bool := l.any fun f => decide (f.1 = d)
mutual
def leavesN : Nd → Nat
  | .mk k _ _ ks => if k = 1 then 1 else leavesNs ks
def leavesNs : List Nd → Nat
  | [] => 0
  | x :: ks => leavesN x + leavesNs ks
end
mutual
def semN : Nd → List (List Fo) → Int → Bool
  | .mk k _ _ ks, L, d => if k = 1 then hasF (L.headD []) d else if k = 2 then semAll ks L d else if k = 3 then semAny ks L d else if k = 4 then !semAny ks L d else false
def semAll : List Nd → List (List Fo) → Int → Bool
  | [], _, _ => true
  | x :: ks, L, d => semN x L d && semAll ks (L.drop (leavesN x)) d
def semAny : List Nd → List (List Fo) → Int → Bool
  | [], _, _ => false
  | x :: ks, L, d => semN x L d || semAny ks (L.drop (leavesN x)) d
end
theorem leavesNs_snoc : ∀ (ks : List Nd) (x : Nd), leavesNs (ks ++ [x]) = leavesNs ks + leavesN x
  | [], x => by simp [leavesNs]
  | y :: ks, x => by rw [List.cons_append, leavesNs, leavesNs, leavesNs_snoc ks x]; omega
theorem semAll_snoc : ∀ (ks : List Nd) (x : Nd) (L : List (List Fo)) (d : Int), semAll (ks ++ [x]) L d = (semAll ks L d && semN x (L.drop (leavesNs ks)) d)
  | [], x, L, d => by simp [semAll, leavesNs]
  | y :: ks, x, L, d => by rw [List.cons_append, semAll, semAll, semAll_snoc ks x, leavesNs, List.drop_drop, Bool.and_assoc]
theorem semAny_snoc : ∀ (ks : List Nd) (x : Nd) (L : List (List Fo)) (d : Int), semAny (ks ++ [x]) L d = (semAny ks L d || semN x (L.drop (leavesNs ks)) d)
  | [], x, L, d => by simp [semAny, leavesNs]
  | y :: ks, x, L, d => by rw [List.cons_append, semAny, semAny, semAny_snoc ks x, leavesNs, List.drop_drop, Bool.or_assoc]
theorem take_snoc_nd {ks : List Nd} {i : Nat} {x : Nd} (h : ks[i]? = some x) : ks.take (i + 1) = ks.take i ++ [x] := by rw [List.take_add_one, h]; rfl
/-- What an And's kids leave. -/
def allD (ks : List Nd) (L : List (List Fo)) (docs : List Int) (i : Nat) : List Int := docs.filter (semAll (ks.take i) L)
def anyD (ks : List Nd) (L : List (List Fo)) (docs : List Int) (i : Nat) : List Int := docs.filter fun d => !semAny (ks.take i) L d
def restL (ks : List Nd) (L : List (List Fo)) (i : Nat) : List (List Fo) := L.drop (leavesNs (ks.take i))
theorem allD_zero (ks : List Nd) (L : List (List Fo)) (docs : List Int) : allD ks L docs 0 = docs := by unfold allD; rw [List.take_zero, show semAll [] L = fun _ => true from funext fun d => by rw [semAll]]; simp
theorem anyD_zero (ks : List Nd) (L : List (List Fo)) (docs : List Int) : anyD ks L docs 0 = docs := by
  unfold anyD
  rw [List.take_zero]
  have : (fun d => !semAny [] L d) = fun _ => true := funext fun d => by rw [semAny]; rfl
  rw [this]; simp
theorem restL_zero (ks : List Nd) (L : List (List Fo)) : restL ks L 0 = L := by unfold restL; rw [List.take_zero, leavesNs, List.drop_zero]
theorem allD_succ {ks : List Nd} {L : List (List Fo)} {docs : List Int} {i : Nat} {x : Nd} (h : ks[i]? = some x) : (allD ks L docs i).filter (semN x (restL ks L i)) = allD ks L docs (i + 1) := by
  unfold allD restL
  rw [List.filter_filter, take_snoc_nd h]
  congr 1
  funext d
  rw [semAll_snoc, Bool.and_comm]
theorem anyD_succ {ks : List Nd} {L : List (List Fo)} {docs : List Int} {i : Nat} {x : Nd} (h : ks[i]? = some x) : (anyD ks L docs i).filter (fun d => !semN x (restL ks L i) d) = anyD ks L docs (i + 1) := by
  unfold anyD restL
  rw [List.filter_filter, take_snoc_nd h]
  congr 1
  funext d
  rw [semAny_snoc, Bool.not_or, Bool.and_comm]
theorem restL_succ {ks : List Nd} {L : List (List Fo)} {i : Nat} {x : Nd} (h : ks[i]? = some x) : (restL ks L i).drop (leavesN x) = restL ks L (i + 1) := by
  unfold restL
  rw [List.drop_drop, take_snoc_nd h, leavesNs_snoc]
/-! ### What each kind comes to -/
theorem sem_leaf {f : Int} {ts : List Tk} {ks : List Nd} {L : List (List Fo)} : semN (.mk 1 f ts ks) L = hasF (L.headD []) ∧ leavesN (.mk 1 f ts ks) = 1 := by
  refine ⟨funext fun d => ?_, ?_⟩
  · rw [semN, if_pos rfl]
  · rw [leavesN, if_pos rfl]
theorem leaves_kids {k f : Int} {ts : List Tk} {ks : List Nd} (h : k ≠ 1) : leavesN (.mk k f ts ks) = leavesNs ks := by rw [leavesN, if_neg h]
theorem sem_and {f : Int} {ts : List Tk} {ks : List Nd} {L : List (List Fo)} : semN (.mk 2 f ts ks) L = semAll ks L := funext fun d => by rw [semN, if_neg (by decide), if_pos rfl]
theorem sem_or {f : Int} {ts : List Tk} {ks : List Nd} {L : List (List Fo)} : semN (.mk 3 f ts ks) L = semAny ks L := funext fun d => by rw [semN, if_neg (by decide), if_neg (by decide), if_pos rfl]
theorem sem_not {f : Int} {ts : List Tk} {ks : List Nd} {L : List (List Fo)} : semN (.mk 4 f ts ks) L = fun d => !semAny ks L d := funext fun d => by rw [semN, if_neg (by decide), if_neg (by decide), if_neg (by decide), if_pos rfl]
theorem sem_else {k f : Int} {ts : List Tk} {ks : List Nd} {L : List (List Fo)} (h1 : k ≠ 1) (h2 : k ≠ 2) (h3 : k ≠ 3) (h4 : k ≠ 4) : semN (.mk k f ts ks) L = fun _ => false := funext fun d => by rw [semN, if_neg h1, if_neg h2, if_neg h3, if_neg h4]
theorem all_full {ks : List Nd} {L : List (List Fo)} {docs : List Int} {i : Nat} (h : ks.length ≤ i) : allD ks L docs i = docs.filter (semAll ks L) := by unfold allD; rw [List.take_of_length_le h]
theorem any_full {ks : List Nd} {L : List (List Fo)} {docs : List Int} {i : Nat} (h : ks.length ≤ i) : anyD ks L docs i = docs.filter fun d => !semAny ks L d := by unfold anyD; rw [List.take_of_length_le h]
theorem rest_full {ks : List Nd} {L : List (List Fo)} {i : Nat} (h : ks.length ≤ i) : restL ks L i = L.drop (leavesNs ks) := by unfold restL; rw [List.take_of_length_le h]
/-! ### Documents that stand in a list, and those that don't -/
def RiseF (l : List Fo) : Prop := l.Pairwise fun a b => a.1 < b.1
/-- Of rising documents and a rising list: where the list begins with what isn't ahead. -/
theorem has_drop {l : List Fo} {d : Int} : hasF (l.dropWhile fun f => decide (f.1 < d)) d = hasF l d := by
  induction l with
  | nil => rfl
  | cons x l ih =>
    rw [List.dropWhile_cons]
    split
    · rename_i h
      rw [ih]
      have h : x.1 < d := by simpa using h
      have : ¬ x.1 = d := by omega
      simp [hasF, this]
    · rfl
theorem has_head {x : Fo} {l : List Fo} {d : Int} (hr : RiseF (x :: l)) (h : d ≤ x.1) : hasF (x :: l) d = decide (x.1 = d) := by
  unfold RiseF at hr
  rw [List.pairwise_cons] at hr
  have : hasF l d = false := by
    unfold hasF
    rw [List.any_eq_false]
    intro y hy
    have := hr.1 y hy
    simp
    omega
  unfold hasF at this ⊢
  rw [List.any_cons, this, Bool.or_false]
theorem without_no {p : Int → Bool} {x : Int} {docs : List Int} (h : p x = false) : ∀ y l, docs.filter p = y :: l → y ≠ x := by
  intro y l he hy
  have : y ∈ docs.filter p := by rw [he]; simp
  have := (List.mem_filter.1 this).2
  rw [hy, h] at this
  cases this
theorem rise_filter {l : List Int} (h : RiseP l) (p : Int → Bool) : RiseP (l.filter p) := List.Pairwise.filter _ h
/-! ### The laws -/
theorem not_one (f : Int) (x : Nd) (L : List (List Fo)) : semN (.mk 4 f [] [x]) L = fun d => !semN x L d := by
  rw [sem_not]
  funext d
  rw [semAny, semAny, Bool.or_false]
theorem not_two (x : Nd) (L : List (List Fo)) : semN (.mk 4 0 [] [.mk 4 0 [] [x]]) L = semN x L := by
  rw [not_one, not_one]
  funext d
  rw [Bool.not_not]
def notsN (ks : List Nd) : List Nd := ks.map fun x => .mk 4 0 [] [x]
theorem leaves_not (x : Nd) : leavesN (.mk 4 0 [] [x]) = leavesN x := by rw [leaves_kids (by decide), leavesNs, leavesNs]; rfl
theorem any_nots : ∀ (ks : List Nd) (L : List (List Fo)) (d : Int), semAny (notsN ks) L d = !semAll ks L d ∧ semAll (notsN ks) L d = !semAny ks L d
  | [], L, d => by simp [notsN, semAny, semAll]
  | x :: ks, L, d => by
    have ih := any_nots ks (L.drop (leavesN x)) d
    unfold notsN at ih ⊢
    rw [List.map_cons, semAny, semAll, semAll, semAny, leaves_not, not_one, ih.1, ih.2, Bool.not_and, Bool.not_or]
    exact ⟨rfl, rfl⟩
theorem not_and (ks : List Nd) (L : List (List Fo)) : semN (.mk 4 0 [] [.mk 2 0 [] ks]) L = semN (.mk 3 0 [] (notsN ks)) L := by
  rw [not_one, sem_and, sem_or]
  funext d
  rw [(any_nots ks L d).1]
theorem not_or (ks : List Nd) (L : List (List Fo)) : semN (.mk 4 0 [] [.mk 3 0 [] ks]) L = semN (.mk 2 0 [] (notsN ks)) L := by
  rw [not_one, sem_and, sem_or]
  funext d
  rw [(any_nots ks L d).2]
/-- How many of the first documents something says yes to. -/
def cntP (p : Int → Bool) (l : List Int) : Nat := (l.filter p).length
theorem filter_at {p : Int → Bool} : ∀ {l : List Int} {j : Nat} {d : Int}, l[j]? = some d → p d = true → (l.filter p)[cntP p (l.take j)]? = some d
  | [], j, d, h, _ => by simp at h
  | x :: l, 0, d, h, hp => by
    simp at h
    subst h
    unfold cntP
    rw [List.take_zero, List.filter_nil, List.filter_cons, if_pos hp]
    rfl
  | x :: l, j + 1, d, h, hp => by
    have := filter_at (l := l) (j := j) (by simpa using h) hp
    unfold cntP at this ⊢
    rw [List.take_succ_cons, List.filter_cons, List.filter_cons]
    by_cases hx : p x = true
    · rw [if_pos hx, if_pos hx, List.length_cons, List.getElem?_cons_succ]
      exact this
    · rw [if_neg hx, if_neg hx]
      exact this
theorem filter_not {p : Int → Bool} {l : List Int} {j i : Nat} {d d' : Int} (h : l[j]? = some d) (hp : p d = false) (h' : (l.filter p)[i]? = some d') : d' ≠ d := by
  rintro rfl
  have := (List.mem_filter.1 (List.mem_of_getElem? h')).2
  rw [hp] at this
  cases this
theorem cnt_succ {p : Int → Bool} {l : List Int} {j : Nat} {d : Int} (h : l[j]? = some d) : cntP p (l.take (j + 1)) = cntP p (l.take j) + if p d then 1 else 0 := by
  unfold cntP
  rw [List.take_add_one, h, List.filter_append, List.length_append]
  by_cases hp : p d = true
  · simp [hp]
  · simp [hp]
theorem cnt_full {p : Int → Bool} {l : List Int} {j : Nat} (h : l.length ≤ j) : cntP p (l.take j) = (l.filter p).length := by unfold cntP; rw [List.take_of_length_le h]
end Go.Proofs.Ytaaeooimalglaaa
