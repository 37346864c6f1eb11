/-
  What a Step does to the counts. Without the program's text.
-/
import Derived.Test.YtdmcnlkmfohmdaaStepPure
namespace Go.Proofs.Ytdmcnlkmfohmdaa
open Go.RowKit

/-- At a Step's beginning. -/
def St.start (st : St) : St := { st with at_ := 0, made := false }
theorem start_mono {st : St} {B C : Nat} (h : st.start.Ok B) (hc : B ≤ C) : st.start.Ok C := by
  obtain ⟨h1, h2, h3, h4, h5, h6, h7⟩ := h
  exact ⟨h1, Nat.le_trans h2 hc, h3, h4, by have : (B : Int) ≤ C := by omega
                                            omega, h6, h7⟩
theorem step_ok {st : St} {B : Nat} {E : Nat → Ins} (hE : ∀ i, U (E i).v) (len : Nat) (h : st.start.Ok B) : (st.step E len).start.Ok (B + 1) := by
  unfold St.step
  split
  · exact start_mono h (by omega)
  · have ht := progN_ok hE len 0 0 _ h
    change (progN E len 0 0 { st with at_ := 0, made := false }).Ok B at ht
    simp only
    generalize progN E len 0 0 { st with at_ := 0, made := false } = t at ht
    obtain ⟨h1, h2, h3, h4, h5, h6, h7⟩ := ht
    refine ⟨by simp [St.start], ?_, h3, h4, ?_, h6, h7⟩
    · simp only [St.start, Bool.false_eq_true, if_false]
      omega
    · simp only [St.start, Bool.false_eq_true, if_false]
      split at h5 <;> omega

/-- So many accesses as answers; at most one more than there were. -/
structure St.Cnt (c : Int) (st : St) : Prop where
  log : st.l + st.s = st.log.length
  lo : c ≤ st.l + st.s
  hi : st.l + st.s ≤ c + 1
  no : st.made = false → st.l + st.s = c
theorem St.Cnt.load {c : Int} {st : St} (h : st.Cnt c) (a : Int) : (st.load a).2.Cnt c := by
  obtain ⟨h1, h2, h3, h4⟩ := h
  unfold St.load
  split
  · exact ⟨h1, h2, h3, h4⟩
  · split
    · exact ⟨h1, h2, h3, h4⟩
    · rename_i hm
      have := h4 (by simpa using hm)
      split
      · exact ⟨by simp; omega, by simp; omega, by simp; omega, by simp⟩
      · exact ⟨h1, h2, h3, by simp⟩
theorem St.Cnt.store {c : Int} {st : St} (h : st.Cnt c) (a v : Int) : (st.store a v).Cnt c := by
  obtain ⟨h1, h2, h3, h4⟩ := h
  unfold St.store
  split
  · exact ⟨h1, h2, h3, h4⟩
  · split
    · exact ⟨h1, h2, h3, h4⟩
    · rename_i hm
      have := h4 (by simpa using hm)
      split
      · exact ⟨by simp; omega, by simp; omega, by simp; omega, by simp⟩
      · exact ⟨h1, h2, h3, by simp⟩
theorem progN_cnt {E : Nat → Ins} {c : Int} : ∀ (n i : Nat) (last : Int) (st : St), st.Cnt c → (progN E n i last st).Cnt c
  | 0, _, _, _, h => h
  | n + 1, i, last, st, h => by
    unfold progN
    split
    · exact h
    split
    · exact h
    split
    · exact progN_cnt n _ _ _ (h.load _)
    split
    · exact progN_cnt n _ _ _ (h.store _ _)
    split
    · exact progN_cnt n _ _ _ (h.store _ _)
    · exact progN_cnt n _ _ _ h
theorem step_cnt {st : St} (E : Nat → Ins) (len : Nat) (h : st.l + st.s = st.log.length) : (st.step E len).l + (st.step E len).s = (st.step E len).log.length ∧ st.l + st.s ≤ (st.step E len).l + (st.step E len).s ∧ (st.step E len).l + (st.step E len).s ≤ st.l + st.s + 1 := by
  unfold St.step
  split
  · exact ⟨h, by omega, by omega⟩
  · obtain ⟨h1, h2, h3, _⟩ := progN_cnt (E := E) (c := st.l + st.s) len 0 0 { st with at_ := 0, made := false } ⟨h, by simp, by simp; omega, fun _ => rfl⟩
    exact ⟨h1, h2, h3⟩
theorem step_over_eq {st : St} (E : Nat → Ins) (len : Nat) (h : st.over = true) : st.step E len = st := by simp [St.step, h]
theorem new_ok_st {n : Nat} : (⟨[], 0, false, false, false, 0, List.replicate n 0, 0, 0⟩ : St).start.Ok 1 := by
  refine ⟨by simp [St.start], by simp [St.start], by simp [St.start], by simp [St.start], by simp [St.start], by simp [St.start], ?_⟩
  intro x hx
  simp [St.start] at hx
  rw [hx.2]; exact u_zero
theorem load_len (st : St) (a : Int) : (st.load a).2.cs.length = st.cs.length := by unfold St.load; split <;> (try split) <;> (try split) <;> rfl
theorem store_len (st : St) (a v : Int) : (st.store a v).cs.length = st.cs.length := by unfold St.store; split <;> (try split) <;> (try split) <;> simp
theorem progN_len (E : Nat → Ins) : ∀ (n i : Nat) (last : Int) (st : St), (progN E n i last st).cs.length = st.cs.length
  | 0, _, _, _ => rfl
  | n + 1, i, last, st => by
    unfold progN
    split
    · rfl
    split
    · rfl
    split
    · rw [progN_len, load_len]
    split
    · rw [progN_len, store_len]
    split
    · rw [progN_len, store_len]
    · rw [progN_len]
theorem step_len (st : St) (E : Nat → Ins) (len : Nat) : (st.step E len).cs.length = st.cs.length := by
  unfold St.step
  split
  · rfl
  · exact progN_len E len 0 0 _
end Go.Proofs.Ytdmcnlkmfohmdaa
