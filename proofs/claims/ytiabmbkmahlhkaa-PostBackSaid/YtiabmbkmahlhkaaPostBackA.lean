/-
  Eight rows of one's own in an array; the words and the tails of eight lists. Over the program's own text.
-/
import Derived.Test.YtiabmbkmahlhkaaPostSeq
import Derived.Deep.AppendLies
namespace Go.Proofs.Ytiabmbkmahlhkaa
open Go.RowKit

/-- A row is as it was where its block is. -/
theorem OwnN.keep {e : TypeId} {k : IntKind} {w w' : World} {base : Nat} {v : Value} {l : List Nat} (h : OwnN e k w base v l) (hb : ∀ g, v.ownBlock = some g → w'.heap[g]? = w.heap[g]?) : OwnN e k w' base v l := by
  obtain ⟨h0, h | ⟨g, cap, cur, h1, h2, h3, h4⟩⟩ := h
  · exact ⟨h0, .inl h⟩
  · refine ⟨h0, .inr ⟨g, cap, cur, h1, h2, ?_, h4⟩⟩
    rw [hb g (by rw [h1]; rfl)]
    exact h3
/-- What its block is. -/
theorem OwnN.blk {e : TypeId} {k : IntKind} {w : World} {base : Nat} {v : Value} {l : List Nat} (h : OwnN e k w base v l) {g : Nat} (hg : v.ownBlock = some g) : base ≤ g ∧ ∃ cur, w.heap[g]? = some (.cells cur e (0, 0)) := by
  obtain ⟨h0, ⟨h, _⟩ | ⟨g', cap, cur, h1, h2, h3, h4⟩⟩ := h
  · rw [h] at hg; cases hg
  · rw [h1] at hg
    cases hg
    exact ⟨h2, cur, h3⟩
/-- A block of another kind is as it was. -/
theorem grown_keep {e t : TypeId} {k : IntKind} {w w' : World} {base : Nat} {v : Value} {l : List Nat} (h : OwnN e k w base v l) (hg : w.grownBy w' v.ownBlock) {b : Nat} {c : Array Value} (hb : w.heap[b]? = some (.cells c t (0, 0))) (ht : t ≠ e) : w'.heap[b]? = some (.cells c t (0, 0)) := by
  rw [hg.block b (lt_of_heap hb) ?_]
  · exact hb
  · intro hv
    obtain ⟨_, cur, hc⟩ := h.blk (by first | exact hv | exact hv.symm)
    rw [hb] at hc
    injection hc with hc
    injection hc with _ h2
    exact ht h2
theorem grown_low {e : TypeId} {k : IntKind} {w w' : World} {base : Nat} {v : Value} {l : List Nat} (h : OwnN e k w base v l) (hg : w.grownBy w' v.ownBlock) {b : Nat} (hb : b < base) (hl : b < w.heap.size) : w'.heap[b]? = w.heap[b]? := by
  refine hg.block b hl ?_
  intro hv
  have := (h.blk (by first | exact hv | exact hv.symm)).1
  omega

/-- Eight rows. -/
structure Rows8 (w : World) (base : Nat) (e : TypeId) (k : IntKind) (V : Nat → Value) (A : Nat → List Nat) : Prop where
  own : ∀ i, i < 8 → OwnN e k w base (V i) (A i)
  apart : ∀ i j g, i < 8 → j < 8 → i ≠ j → (V i).ownBlock = some g → (V j).ownBlock ≠ some g
def setV (V : Nat → Value) (i : Nat) (v : Value) (j : Nat) : Value := if j = i then v else V j
def setL (A : Nat → List Nat) (i : Nat) (l : List Nat) (j : Nat) : List Nat := if j = i then l else A j
theorem Rows8.keep {w w' : World} {base : Nat} {e : TypeId} {k : IntKind} {V : Nat → Value} {A : Nat → List Nat} (h : Rows8 w base e k V A) (hb : ∀ g c, base ≤ g → w.heap[g]? = some (.cells c e (0, 0)) → w'.heap[g]? = w.heap[g]?) : Rows8 w' base e k V A :=
  ⟨fun i hi => (h.own i hi).keep fun g hg => by
    obtain ⟨h1, cur, h2⟩ := (h.own i hi).blk hg
    exact hb g cur h1 h2, h.apart⟩
theorem Rows8.mod {w w' : World} {base : Nat} {e : TypeId} {k : IntKind} {V : Nat → Value} {A : Nat → List Nat} (h : Rows8 w base e k V A) {Z : Nat → Prop} (hm : Mod Z w w') (hZ : ∀ g, base ≤ g → ¬ Z g) : Rows8 w' base e k V A :=
  h.keep fun g _ hg hc => hm.block g (lt_of_heap hc) (hZ g hg)
/-- Another array's row has grown. -/
theorem Rows8.other {w w' : World} {base base' : Nat} {e e' : TypeId} {k k' : IntKind} {V : Nat → Value} {A : Nat → List Nat} (h : Rows8 w base e k V A) {v : Value} {l : List Nat} (hv : OwnN e' k' w base' v l) (hg : w.grownBy w' v.ownBlock) (hne : e ≠ e') : Rows8 w' base e k V A :=
  h.keep fun g c _ hc => by rw [hc]; exact grown_keep hv hg hc hne
/-- One of them has grown. -/
theorem Rows8.grow {w w' : World} {base : Nat} {e : TypeId} {k : IntKind} {V : Nat → Value} {A : Nat → List Nat} (h : Rows8 w base e k V A) {i : Nat} (hi : i < 8) {g cap n : Nat} {x : Nat} (ho : OwnN e k w' base (.slice (some ⟨g, 0, none⟩) n cap) (A i ++ [x])) (hg : w.grownBy w' (V i).ownBlock) (hl : (V i).ownBlock = some g ∨ g = w.heap.size) :
    Rows8 w' base e k (setV V i (.slice (some ⟨g, 0, none⟩) n cap)) (setL A i (A i ++ [x])) := by
  have hold : ∀ j, j < 8 → j ≠ i → ∀ b, (V j).ownBlock = some b → w'.heap[b]? = w.heap[b]? ∧ b ≠ g := by
    intro j hj hji b hb
    obtain ⟨_, cur, hc⟩ := (h.own j hj).blk hb
    have hlt := lt_of_heap hc
    have hne : (V i).ownBlock ≠ some b := fun e => h.apart i j b hi hj (Ne.symm hji) e hb
    refine ⟨hg.block b hlt (by first | exact hne | exact Ne.symm hne), ?_⟩
    rintro rfl
    rcases hl with e | e
    · exact hne e
    · omega
  have hgb : ∀ b, (Value.slice (some ⟨g, 0, none⟩) n cap).ownBlock = some b → b = g := by
    intro b hb
    cases hb
    rfl
  refine ⟨fun j hj => ?_, fun a b c ha hb hab hca hcb => ?_⟩
  · unfold setV setL
    by_cases hji : j = i
    · rw [if_pos hji, if_pos hji]
      exact ho
    · rw [if_neg hji, if_neg hji]
      exact (h.own j hj).keep fun b hb => (hold j hj hji b hb).1
  · unfold setV at hca hcb
    by_cases hai : a = i
    · rw [if_pos hai] at hca
      have hbi : b ≠ i := fun e => hab (hai.trans e.symm)
      rw [if_neg hbi] at hcb
      exact (hold b hb hbi c hcb).2 (hgb c hca)
    · rw [if_neg hai] at hca
      by_cases hbi : b = i
      · rw [if_pos hbi] at hcb
        exact (hold a ha hai c hca).2 (hgb c hcb)
      · rw [if_neg hbi] at hcb
        exact h.apart a b c ha hb hab hca hcb
/-- Eight values in an array. -/
def vals8 (V : Nat → Value) : Array Value := #[V 0, V 1, V 2, V 3, V 4, V 5, V 6, V 7]
theorem vals8_get (V : Nat → Value) (k : Nat) (hk : k < 8) : (vals8 V)[k]? = some (V k) := by
  rcases (show k = 0 ∨ k = 1 ∨ k = 2 ∨ k = 3 ∨ k = 4 ∨ k = 5 ∨ k = 6 ∨ k = 7 by omega) with rfl | rfl | rfl | rfl | rfl | rfl | rfl | rfl <;> rfl
theorem vals8_set (V : Nat → Value) (k : Nat) (v : Value) (hk : k < 8) : (vals8 V).setIfInBounds k v = vals8 (setV V k v) := by
  rcases (show k = 0 ∨ k = 1 ∨ k = 2 ∨ k = 3 ∨ k = 4 ∨ k = 5 ∨ k = 6 ∨ k = 7 by omega) with rfl | rfl | rfl | rfl | rfl | rfl | rfl | rfl <;> rfl

/-! ### The lists -/
def lastN (l : List Nat) : Nat := l.getLastD 0
theorem lastN_snoc (l : List Nat) (x : Nat) : lastN (l ++ [x]) = x := by unfold lastN; simp
/-- Each tail of each list reads what was added up to it. -/
structure Lists (B S : Nat → Int) (cs : List Int) (D : Int → Prop) (tails : Nat → Int) (A T : Nat → List Nat) (N : Nat) : Prop where
  last : ∀ i, i < 8 → tails i = ((lastN (T i) : Nat) : Int)
  len : ∀ i, i < 8 → (A i).length = (T i).length ∧ (A i).length ≤ N
  chain : ∀ i j x : Nat, i < 8 → (T i)[j]? = some x → Chain B S cs D (x : Int) ((A i).take (j + 1)).reverse
theorem Lists.whole {B S : Nat → Int} {cs : List Int} {D : Int → Prop} {tails : Nat → Int} {A T : Nat → List Nat} {N : Nat} (h : Lists B S cs D tails A T N) {i : Nat} (hi : i < 8) : Chain B S cs D (tails i) (A i).reverse := by
  have hl := (h.len i hi).1
  rw [h.last i hi]
  by_cases ht : T i = []
  · have ha : A i = [] := List.eq_nil_of_length_eq_zero (by rw [hl, ht]; rfl)
    rw [ht, ha]
    exact .nil
  · obtain ⟨m, hm⟩ : ∃ m, (T i).length = m + 1 := ⟨(T i).length - 1, by have : (T i).length ≠ 0 := fun e => ht (List.eq_nil_of_length_eq_zero e); omega⟩
    have hx : (T i)[m]? = some (lastN (T i)) := by
      unfold lastN
      rw [List.getLastD_eq_getLast?, List.getLast?_eq_getElem?, hm]
      simp only [Nat.add_sub_cancel]
      rw [List.getElem?_eq_getElem (by omega)]
      rfl
    have := h.chain i m _ hi hx
    rwa [List.take_of_length_le (by omega)] at this
theorem Lists.add {B S : Nat → Int} {C : Int} {cs cs' : List Int} {Us U' : Nat → Int} {D D' : Int → Prop} {tails : Nat → Int} {A T : Nat → List Nat} {N : Nat} (h : Lists B S cs D tails A T N) {i x : Nat} (hi : i < 8) {t' : Int} (hp : PutOk B S C cs Us D tails i (tails i) x cs' U' D' t') : Lists B S cs' D' (setT tails i t') (setL A i (A i ++ [x])) (setL T i (T i ++ [t'.toNat])) (N + 1) := by
  have h0 := hp.range.1
  refine ⟨fun j hj => ?_, fun j hj => ?_, fun j m y hj hm => ?_⟩
  · unfold setT setL
    by_cases hji : j = i
    · rw [if_pos hji, if_pos hji, lastN_snoc]; omega
    · rw [if_neg hji, if_neg hji]; exact h.last j hj
  · have h1 := h.len j hj
    unfold setL
    by_cases hji : j = i
    · have h2 := h.len i hi
      rw [if_pos hji, if_pos hji]
      simp only [List.length_append, List.length_cons, List.length_nil]
      omega
    · rw [if_neg hji, if_neg hji]; omega
  · have hold : ∀ a ws, Chain B S cs D a ws → Chain B S cs' D' a ws := fun a ws hc => hc.mono hp.more_ hp.old
    unfold setL at hm ⊢
    by_cases hji : j = i
    · rw [if_pos hji] at hm ⊢
      have h1 := (h.len i hi).1
      by_cases hlt : m < (T i).length
      · rw [List.getElem?_append_left hlt] at hm
        rw [List.take_append_of_le_length (by omega)]
        exact hold _ _ (h.chain i m y hi hm)
      · have hme : m = (T i).length := by
          have := (List.getElem?_eq_some_iff.1 hm).1
          simp at this
          omega
        rw [hme, List.getElem?_append_right (Nat.le_refl _), Nat.sub_self] at hm
        simp only [List.getElem?_cons_zero, Option.some.injEq] at hm
        rw [← hm, List.take_of_length_le (by simp; omega), List.reverse_append]
        rw [show ((t'.toNat : Nat) : Int) = t' by omega]
        exact hp.chain _ (h.whole hi)
    · rw [if_neg hji] at hm ⊢
      exact hold _ _ (h.chain j m y hj hm)
end Go.Proofs.Ytiabmbkmahlhkaa
