/-
  Rows of documents, by versions: what is seen and found of cells; that what a version sees stays. Without the program's text.
-/
import Derived.Test.YtgponhdmhgdalaaAcc
import Derived.Test.YtgponhdmhgdalaaSeen
namespace Go.Proofs.Ytgponhdmhgdalaa
open Go.RowKit

def cellZ (cs : List Int) (a : Int) : Int := cs.getD a.toNat 0
theorem cellZ_set (cs : List Int) (p : Nat) (v a : Int) (ha : 0 ≤ a) : cellZ (cs.set p v) a = if a = (p : Int) ∧ p < cs.length then v else cellZ cs a := by
  unfold cellZ
  rw [List.getD_eq_getElem?_getD, List.getElem?_set]
  by_cases h : p = a.toNat
  · subst h
    by_cases h2 : a.toNat < cs.length
    · rw [if_pos rfl, if_pos h2, if_pos ⟨by omega, h2⟩]
      rfl
    · rw [if_pos rfl, if_neg h2, if_neg (fun h => h2 h.2)]
      simp [List.getD_eq_getElem?_getD, List.getElem?_eq_none (Nat.le_of_not_lt h2)]
  · rw [if_neg h, if_neg (by omega), List.getD_eq_getElem?_getD]

/-- What a version sees of the rows from the d-th on, of so many more. -/
def seenF (cs : List Int) (b v : Int) : Nat → Nat → List Sn
  | 0, _ => []
  | m + 1, d => if cellZ cs (b + 4 * (d : Int)) = 0 ∨ v < cellZ cs (b + 4 * (d : Int)) then [] else (if cellZ cs (b + 4 * (d : Int) + 3) = 0 ∨ v < cellZ cs (b + 4 * (d : Int) + 3) then [((d : Int), cellZ cs (b + 4 * (d : Int) + 1), cellZ cs (b + 4 * (d : Int) + 2))] else []) ++ seenF cs b v m (d + 1)
def seenZ (cs : List Int) (b : Int) (n : Nat) (v : Int) : List Sn := seenF cs b v n 0
def findF (cs : List Int) (b x : Int) : Nat → Nat → Int
  | 0, _ => -1
  | m + 1, d => if cellZ cs (b + 4 * (d : Int) + 1) = x then (d : Int) else findF cs b x m (d + 1)
def findZ (cs : List Int) (b : Int) (n : Nat) (x : Int) : Int := findF cs b x n 0
theorem seenF_same {cs cs' : List Int} {b v : Int} : ∀ (m d : Nat), (∀ j, d ≤ j → j < d + m → ∀ i : Int, 0 ≤ i → i < 4 → cellZ cs' (b + 4 * (j : Int) + i) = cellZ cs (b + 4 * (j : Int) + i)) → seenF cs' b v m d = seenF cs b v m d
  | 0, _, _ => rfl
  | m + 1, d, h => by
    have h0 := h d (by omega) (by omega) 0 (by omega) (by omega)
    rw [Int.add_zero] at h0
    unfold seenF
    rw [h0, h d (by omega) (by omega) 1 (by omega) (by omega), h d (by omega) (by omega) 2 (by omega) (by omega), h d (by omega) (by omega) 3 (by omega) (by omega), seenF_same m (d + 1) fun j h1 h2 => h j (by omega) (by omega)]
theorem seenF_len (cs : List Int) (b v : Int) : ∀ (m d : Nat), (seenF cs b v m d).length ≤ m
  | 0, _ => Nat.le_refl _
  | m + 1, d => by
    have := seenF_len cs b v m (d + 1)
    unfold seenF
    split
    · simp
    · rw [List.length_append]
      split <;> simp <;> omega
/-- A row's document is laid, behind its row; a document is killed. -/
def layC (cs : List Int) (b : Int) (d : Nat) (id l v : Int) : List Int := ((cs.set (b + 4 * (d : Int) + 1).toNat id).set (b + 4 * (d : Int) + 2).toNat l).set (b + 4 * (d : Int)).toNat v
def killC (cs : List Int) (b : Int) (d : Nat) (v : Int) : List Int := cs.set (b + 4 * (d : Int) + 3).toNat v
theorem layC_length (cs : List Int) (b : Int) (d : Nat) (id l v : Int) : (layC cs b d id l v).length = cs.length := by simp [layC]
theorem killC_length (cs : List Int) (b : Int) (d : Nat) (v : Int) : (killC cs b d v).length = cs.length := by simp [killC]
theorem layC_get {cs : List Int} {b : Int} {d : Nat} {id l v : Int} (hb : 0 ≤ b) (hl : b + 4 * (d : Int) + 3 < cs.length) (a : Int) (ha : 0 ≤ a) : cellZ (layC cs b d id l v) a = if a = b + 4 * (d : Int) then v else if a = b + 4 * (d : Int) + 2 then l else if a = b + 4 * (d : Int) + 1 then id else cellZ cs a := by
  unfold layC
  rw [cellZ_set _ _ _ _ ha, cellZ_set _ _ _ _ ha, cellZ_set _ _ _ _ ha]
  simp only [List.length_set]
  repeat' split
  all_goals first | rfl | (exfalso; omega)
theorem killC_get {cs : List Int} {b : Int} {d : Nat} {v : Int} (hb : 0 ≤ b) (hl : b + 4 * (d : Int) + 3 < cs.length) (a : Int) (ha : 0 ≤ a) : cellZ (killC cs b d v) a = if a = b + 4 * (d : Int) + 3 then v else cellZ cs a := by
  unfold killC
  rw [cellZ_set _ _ _ _ ha]
  repeat' split
  all_goals first | rfl | (exfalso; omega)

/-! ### Programs -/
def layR (b : Int) (d id l v : Int) : Pr Unit := .store (b + 4 * d + 1) id (.store (b + 4 * d + 2) l (.store (b + 4 * d) v (.ret ())))
def killR (b d v : Int) : Pr Unit := .store (b + 4 * d + 3) v (.ret ())
theorem lay_does {cs : List Int} {b : Int} {d : Nat} {id l v : Int} (hb : 0 ≤ b) (hl : b + 4 * (d : Int) + 3 < cs.length) (h1 : U id) (h2 : U l) (h3 : U v) : Does (layR b (d : Int) id l v) cs 3 () (layC cs b d id l v) := by
  unfold layR layC
  refine .store (by omega) (by omega) ?_
  rw [u32_in h1]
  refine .store (by omega) (by simp; omega) ?_
  rw [u32_in h2]
  refine .store (by omega) (by simp; omega) ?_
  rw [u32_in h3]
  exact .ret _ _
theorem kill_does {cs : List Int} {b : Int} {d : Nat} {v : Int} (hb : 0 ≤ b) (hl : b + 4 * (d : Int) + 3 < cs.length) (h3 : U v) : Does (killR b (d : Int) v) cs 1 () (killC cs b d v) := by
  unfold killR killC
  refine .store (by omega) (by omega) ?_
  rw [u32_in h3]
  exact .ret _ _

/-! ### Versions -/
/-- n rows are laid, and v is the last version: births rise, tombs are above them, and none is above v. -/
structure Vers (cs : List Int) (n : Nat) (v : Int) : Prop where
  len : cs.length = 64
  n16 : n ≤ 16
  born : ∀ d : Nat, d < n → 0 < cellZ cs (4 * (d : Int)) ∧ cellZ cs (4 * (d : Int)) ≤ v
  rest : ∀ d : Nat, n ≤ d → d < 16 → cellZ cs (4 * (d : Int)) = 0 ∧ cellZ cs (4 * (d : Int) + 3) = 0
  tomb : ∀ d : Nat, d < n → cellZ cs (4 * (d : Int) + 3) ≤ v
theorem Vers.new : Vers (List.replicate 64 0) 0 0 := by
  have h : ∀ a, cellZ (List.replicate 64 0) a = 0 := fun a => by
    unfold cellZ
    rw [List.getD_eq_getElem?_getD, List.getElem?_replicate]
    split <;> rfl
  exact ⟨by simp, by omega, fun d hd => by omega, fun d _ _ => ⟨h _, h _⟩, fun d hd => by omega⟩
/-- A row is laid by the next version: what the older ones see stays. -/
theorem Vers.lay {cs : List Int} {n : Nat} {v : Int} (h : Vers cs n v) (hn : n < 16) (hv : 0 ≤ v) (id l : Int) : Vers (layC cs 0 n id l (v + 1)) (n + 1) (v + 1) ∧ ∀ k : Int, k ≤ v → seenZ (layC cs 0 n id l (v + 1)) 0 16 k = seenZ cs 0 16 k := by
  have hlen := h.len
  have g : ∀ a : Int, 0 ≤ a → cellZ (layC cs 0 n id l (v + 1)) a = if a = 4 * (n : Int) then v + 1 else if a = 4 * (n : Int) + 2 then l else if a = 4 * (n : Int) + 1 then id else cellZ cs a := by
    intro a ha
    have := layC_get (cs := cs) (b := 0) (d := n) (id := id) (l := l) (v := v + 1) (by omega) (by omega) a ha
    simpa using this
  refine ⟨⟨by rw [layC_length]; exact hlen, by omega, fun d hd => ?_, fun d h1 h2 => ?_, fun d hd => ?_⟩, fun k hk => ?_⟩
  · rw [g _ (by omega)]
    by_cases e : d = n
    · subst e
      rw [if_pos rfl]
      omega
    · have := h.born d (by omega)
      rw [if_neg (by omega), if_neg (by omega), if_neg (by omega)]
      omega
  · have := h.rest d (by omega) h2
    rw [g _ (by omega), g _ (by omega), if_neg (by omega), if_neg (by omega), if_neg (by omega), if_neg (by omega), if_neg (by omega), if_neg (by omega)]
    exact this
  · rw [g _ (by omega), if_neg (by omega), if_neg (by omega), if_neg (by omega)]
    by_cases e : d = n
    · subst e
      have := (h.rest d (by omega) hn).2
      omega
    · have := h.tomb d (by omega)
      omega
  · have key : ∀ (m d : Nat), d + m = 16 → d ≤ n → seenF (layC cs 0 n id l (v + 1)) 0 k m d = seenF cs 0 k m d := by
      intro m
      induction m with
      | zero => intro d _ _; rfl
      | succ m ih =>
        intro d hd hdn
        unfold seenF
        by_cases e : d = n
        · subst e
          have h1 := (h.rest d (by omega) hn).1
          rw [if_pos (.inr (by rw [g _ (by omega), if_pos (by omega)]; omega)), if_pos (.inl (by rw [Int.zero_add]; exact h1))]
        · rw [g _ (by omega), g _ (by omega), g _ (by omega), g _ (by omega), ih (d + 1) (by omega) (by omega)]
          rw [if_neg (show ¬ (0 + 4 * (d : Int) = 4 * (n : Int)) by omega), if_neg (show ¬ (0 + 4 * (d : Int) = 4 * (n : Int) + 2) by omega), if_neg (show ¬ (0 + 4 * (d : Int) = 4 * (n : Int) + 1) by omega),
            if_neg (show ¬ (0 + 4 * (d : Int) + 3 = 4 * (n : Int)) by omega), if_neg (show ¬ (0 + 4 * (d : Int) + 3 = 4 * (n : Int) + 2) by omega), if_neg (show ¬ (0 + 4 * (d : Int) + 3 = 4 * (n : Int) + 1) by omega),
            if_neg (show ¬ (0 + 4 * (d : Int) + 1 = 4 * (n : Int)) by omega), if_neg (show ¬ (0 + 4 * (d : Int) + 1 = 4 * (n : Int) + 2) by omega), if_neg (show ¬ (0 + 4 * (d : Int) + 1 = 4 * (n : Int) + 1) by omega),
            if_neg (show ¬ (0 + 4 * (d : Int) + 2 = 4 * (n : Int)) by omega), if_neg (show ¬ (0 + 4 * (d : Int) + 2 = 4 * (n : Int) + 2) by omega), if_neg (show ¬ (0 + 4 * (d : Int) + 2 = 4 * (n : Int) + 1) by omega)]
    exact key 16 0 (by omega) (by omega)
/-- A document is killed by the next version: what the older ones see stays. -/
theorem Vers.kill {cs : List Int} {n : Nat} {v : Int} (h : Vers cs n v) {d : Nat} (hd : d < n) (ht : cellZ cs (4 * (d : Int) + 3) = 0) : Vers (killC cs 0 d (v + 1)) n (v + 1) ∧ ∀ k : Int, k ≤ v → seenZ (killC cs 0 d (v + 1)) 0 16 k = seenZ cs 0 16 k := by
  have hlen := h.len
  have hn := h.n16
  have g : ∀ a : Int, 0 ≤ a → cellZ (killC cs 0 d (v + 1)) a = if a = 4 * (d : Int) + 3 then v + 1 else cellZ cs a := by
    intro a ha
    have := killC_get (cs := cs) (b := 0) (d := d) (v := v + 1) (by omega) (by omega) a ha
    simpa using this
  refine ⟨⟨by rw [killC_length]; exact hlen, hn, fun e he => ?_, fun e h1 h2 => ?_, fun e he => ?_⟩, fun k hk => ?_⟩
  · have := h.born e he
    rw [g _ (by omega), if_neg (by omega)]
    omega
  · have := h.rest e h1 h2
    rw [g _ (by omega), g _ (by omega), if_neg (by omega), if_neg (by omega)]
    exact this
  · rw [g _ (by omega)]
    have := h.tomb e he
    split <;> omega
  · have key : ∀ (m e : Nat), seenF (killC cs 0 d (v + 1)) 0 k m e = seenF cs 0 k m e := by
      intro m
      induction m with
      | zero => intro e; rfl
      | succ m ih =>
        intro e
        unfold seenF
        rw [g _ (by omega), g _ (by omega), g _ (by omega), g _ (by omega), ih (e + 1), if_neg (show ¬ (0 + 4 * (e : Int) = 4 * (d : Int) + 3) by omega), if_neg (show ¬ (0 + 4 * (e : Int) + 1 = 4 * (d : Int) + 3) by omega), if_neg (show ¬ (0 + 4 * (e : Int) + 2 = 4 * (d : Int) + 3) by omega)]
        by_cases e2 : e = d
        · subst e2
          rw [if_pos (show 0 + 4 * (e : Int) + 3 = 4 * (e : Int) + 3 by omega), show (0 : Int) + 4 * (e : Int) + 3 = 4 * (e : Int) + 3 by omega, ht]
          congr 2
          rw [if_pos (.inr (by omega)), if_pos (.inl rfl)]
        · rw [if_neg (show ¬ (0 + 4 * (e : Int) + 3 = 4 * (d : Int) + 3) by omega)]
    exact key 16 0
end Go.Proofs.Ytgponhdmhgdalaa
