/-
  A list run at once, with no run at all: how many accesses it makes and what the cells are behind it; and that steps one behind the other come to the same. Without the program's text.
-/
import Derived.Test.YtdmcnlkmfohmdaaStepPureC
namespace Go.Proofs.Ytdmcnlkmfohmdaa
open Go.RowKit

/-- The cells behind an access, and what was read last. -/
def behind (cs : List Int) (x : Ins) (last : Int) : List Int := if x.op = 0 ∨ x.op = 2 then cs else cs.set (addrOf x last).toNat (x.val last)
def thenOf (cs : List Int) (x : Ins) (last : Int) : Int := x.after last (cs.getD (addrOf x last).toNat 0)
theorem behind_len (cs : List Int) (x : Ins) (last : Int) : (behind cs x last).length = cs.length := by unfold behind; split <;> simp
/-- The last n instructions, run at once. -/
def alone (E : Nat → Ins) : Nat → Nat → Int → List Int → Option (Nat × List Int)
  | 0, _, _, cs => some (0, cs)
  | n + 1, i, last, cs =>
    if (E i).ends last then some (0, cs)
    else if (E i).acc then
      if okAt cs.length (addrOf (E i) last) = true then (alone E n (i + 1) (thenOf cs (E i) last) (behind cs (E i) last)).map fun p => (p.1 + 1, p.2) else none
    else alone E n (i + 1) last cs

theorem alone_le {E : Nat → Ins} : ∀ (n i : Nat) (last : Int) (cs : List Int) (m : Nat) (c : List Int), alone E n i last cs = some (m, c) → m ≤ n ∧ c.length = cs.length
  | 0, _, _, cs, m, c, h => by
    simp only [alone, Option.some.injEq, Prod.mk.injEq] at h
    obtain ⟨rfl, rfl⟩ := h
    exact ⟨by omega, rfl⟩
  | n + 1, i, last, cs, m, c, h => by
    unfold alone at h
    split at h
    · simp only [Option.some.injEq, Prod.mk.injEq] at h
      obtain ⟨rfl, rfl⟩ := h
      exact ⟨by omega, rfl⟩
    · split at h
      · split at h
        · cases e : alone E n (i + 1) (thenOf cs (E i) last) (behind cs (E i) last) with
          | none => rw [e] at h; cases h
          | some p =>
            rw [e] at h
            simp only [Option.map_some, Option.some.injEq, Prod.mk.injEq] at h
            obtain ⟨rfl, rfl⟩ := h
            have := alone_le n (i + 1) _ _ p.1 p.2 e
            rw [behind_len] at this
            exact ⟨by omega, this.2⟩
        · cases h
      · have := alone_le n (i + 1) _ _ m c h
        exact ⟨by omega, this.2⟩

theorem alone_next {E : Nat → Ins} {len : Nat} : ∀ (n i : Nat) (last : Int) (cs : List Int), i + n = len →
    alone E n i last cs = if nxt E n i last = true then
      (if okAt cs.length (addrOf (E (pos E n i last)) last) = true then (alone E (len - (pos E n i last + 1)) (pos E n i last + 1) (thenOf cs (E (pos E n i last)) last) (behind cs (E (pos E n i last)) last)).map fun p => (p.1 + 1, p.2) else none)
      else some (0, cs)
  | 0, i, last, cs, _ => by simp [alone, nxt]
  | n + 1, i, last, cs, h => by
    by_cases he : (E i).ends last
    · simp [alone, nxt, he]
    · by_cases hac : (E i).acc
      · have e2 : len - (i + 1) = n := by omega
        simp [alone, nxt, pos, he, hac, e2]
      · have e1 : nxt E (n + 1) i last = nxt E n (i + 1) last := by simp [nxt, he, hac]
        have e2 : pos E (n + 1) i last = pos E n (i + 1) last := by simp [pos, he, hac]
        have e3 : alone E (n + 1) i last cs = alone E n (i + 1) last cs := by simp [alone, he, hac]
        rw [e1, e2, e3]
        exact alone_next n (i + 1) last cs (by omega)

theorem access_cs (st : St) (x : Ins) (last : Int) : (st.access x last).cs = behind st.cs x last := by unfold St.access behind; split <;> rfl
theorem then_eq (st : St) (x : Ins) (last : Int) : st.then x last = thenOf st.cs x last := rfl
theorem access_log (st : St) {x : Ins} (last : Int) (_hx : x.acc) : ∃ v, (st.access x last).log = st.log ++ [v] ∧ x.after last v = st.then x last := by
  unfold St.access St.then Ins.after
  by_cases h : x.op = 0 ∨ x.op = 2
  · simp [h]
  · simp [h]

/-- Behind k steps of a run that nobody disturbs. -/
structure Und (E : Nat → Ins) (len : Nat) (made : Nat) (csF : List Int) (k : Nat) (st : St) : Prop where
  over : st.over = false
  off : st.off = false
  err : st.err = 0
  cnt : st.log.length = k
  more : ∃ A last rem, Run E len 0 0 st.log A last ∧ alone E (len - A) A last st.cs = some (rem, csF) ∧ k + rem = made ∧ (k = 0 ∨ 1 ≤ rem)

theorem Und.start {E : Nat → Ins} {len made : Nat} {csF : List Int} {st : St} (hl : st.log = []) (h1 : st.over = false) (h2 : st.off = false) (h3 : st.err = 0) (ha : alone E len 0 0 st.cs = some (made, csF)) : Und E len made csF 0 st :=
  ⟨h1, h2, h3, by simp [hl], 0, 0, made, by rw [hl]; exact .here _ _, ha, by omega, .inl rfl⟩
theorem Und.le {E : Nat → Ins} {len made k : Nat} {csF : List Int} {st : St} (h : Und E len made csF k st) : k ≤ len := by
  obtain ⟨A, last, rem, _, h2, h3, h4⟩ := h.more
  have h5 := h.cnt
  have key : ∀ {i j : Nat} {last lj : Int} {log : List Int}, Run E len i last log j lj → i + log.length ≤ j := by
    intro i j last lj log h
    induction h with
    | here => simp
    | skip _ _ _ _ ih => omega
    | acc _ _ _ ih => simp; omega
  rename_i hr
  have := key hr
  have := hr.le.2 (Nat.zero_le _)
  omega
theorem Und.step {E : Nat → Ins} {len made k : Nat} {csF : List Int} {st : St} (h : Und E len made csF k st) :
    ((st.step E len).over = true ∧ (st.step E len).err = 0 ∧ (st.step E len).log.length = made ∧ (st.step E len).cs = csF ∧ k + 1 = max 1 made) ∨ Und E len made csF (k + 1) (st.step E len) := by
  obtain ⟨A, last, rem, hr, ha, hk, hp⟩ := h.more
  have hle := hr.le.2 (Nat.zero_le _)
  obtain ⟨c1, c2, c3⟩ := step_char hr h.over h.off
  rw [alone_next (len := len) (len - A) A last st.cs (by omega)] at ha
  by_cases hn : nxt E (len - A) A last = true
  · obtain ⟨c4, c5⟩ := c2 hn
    simp only [hn, if_true] at ha c3
    generalize pos E (len - A) A last = P at *
    cases hok : okAt st.cs.length (addrOf (E P) last) with
    | false => rw [hok] at ha; simp at ha
    | true =>
      simp only [hok, if_true] at ha c3
      obtain ⟨v, hv, hafter⟩ := access_log st last c5
      have hrun := c1.snoc (v := v) c4 c5
      rw [hafter, ← hv] at hrun
      rw [← access_cs st, ← then_eq] at ha
      obtain ⟨p1, p2, p3, p4, p5, p6, p7⟩ := access_plain st (E P) last
      cases e : alone E (len - (P + 1)) (P + 1) (st.then (E P) last) (st.access (E P) last).cs with
      | none => rw [e] at ha; simp at ha
      | some q =>
        rw [e] at ha
        simp only [Option.map_some, Option.some.injEq, Prod.mk.injEq] at ha
        obtain ⟨ha1, ha2⟩ := ha
        have e' := e
        rw [alone_next (len := len) (len - (P + 1)) (P + 1) _ _ (by omega)] at e'
        have hcnt := h.cnt
        cases hn2 : nxt E (len - (P + 1)) (P + 1) (st.then (E P) last) with
        | false =>
          left
          simp only [hn2, Bool.false_eq_true, if_false, Option.some.injEq] at e'
          rw [c3, hn2]
          subst e'
          refine ⟨rfl, by rw [← h.err, ← p5], ?_, ha2, ?_⟩
          · show (st.access (E P) last).log.length = made
            rw [p7]; simp only at ha1; omega
          · simp only at ha1; omega
        | true =>
          right
          have hq : 1 ≤ q.1 := by
            simp only [hn2, if_true] at e'
            split at e'
            · cases e2 : alone E (len - (pos E (len - (P + 1)) (P + 1) (st.then (E P) last) + 1)) (pos E (len - (P + 1)) (P + 1) (st.then (E P) last) + 1) (thenOf (st.access (E P) last).cs (E (pos E (len - (P + 1)) (P + 1) (st.then (E P) last))) (st.then (E P) last)) (behind (st.access (E P) last).cs (E (pos E (len - (P + 1)) (P + 1) (st.then (E P) last))) (st.then (E P) last)) with
              | none => rw [e2] at e'; simp at e'
              | some r =>
                rw [e2] at e'
                simp only [Option.map_some, Option.some.injEq] at e'
                rw [← e']; simp
            · cases e'
          rw [c3, hn2]
          refine ⟨rfl, by simp [h.err], by rw [← h.err, ← p5], ?_, P + 1, st.then (E P) last, q.1, hrun, ?_, by omega, .inr hq⟩
          · show (st.access (E P) last).log.length = k + 1
            rw [p7]; omega
          · show alone E (len - (P + 1)) (P + 1) (st.then (E P) last) (st.access (E P) last).cs = some (q.1, csF)
            rw [e, ← ha2]
  · left
    simp only [hn, Bool.false_eq_true, if_false, Option.some.injEq, Prod.mk.injEq] at ha c3
    obtain ⟨h1, h2⟩ := ha
    have hcnt := h.cnt
    rw [c3]
    refine ⟨rfl, h.err, ?_, h2, by omega⟩
    show st.log.length = made
    omega
end Go.Proofs.Ytdmcnlkmfohmdaa
