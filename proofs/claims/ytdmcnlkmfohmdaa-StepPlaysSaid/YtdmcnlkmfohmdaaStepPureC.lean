/-
  A Step, followed through the list: what was made is passed, then one more access is made, or the end is reached. Without the program's text.
-/
import Derived.Test.YtdmcnlkmfohmdaaStepPureB
namespace Go.Proofs.Ytdmcnlkmfohmdaa
open Go.RowKit

/-- Does an instruction read or write? -/
def Ins.acc (x : Ins) : Prop := x.op = 0 ∨ x.op = 1 ∨ x.op = 2 ∨ x.op = 3
/-- Does it end the program? -/
def Ins.ends (x : Ins) (last : Int) : Prop := x.op = 4 ∧ last % 2 = 1
instance (x : Ins) : Decidable x.acc := by unfold Ins.acc; exact inferInstance
instance (x : Ins) (last : Int) : Decidable (x.ends last) := by unfold Ins.ends; exact inferInstance
theorem Ins.acc_not {x : Ins} {last : Int} (h : x.acc) : ¬ x.ends last := by unfold Ins.acc at h; unfold Ins.ends; omega
/-- What was read last behind it, where it was answered v. -/
def Ins.after (x : Ins) (last v : Int) : Int := if x.op = 0 ∨ x.op = 2 then v else last
/-- What it stores. -/
def Ins.val (x : Ins) (last : Int) : Int := if x.op = 1 then x.v else IntKind.u32.wrap (last + x.v)

/-- From instruction i on, with these answers, to instruction j. -/
inductive Run (E : Nat → Ins) (len : Nat) : Nat → Int → List Int → Nat → Int → Prop
  | here (i : Nat) (last : Int) : Run E len i last [] i last
  | skip {i j : Nat} {last lj : Int} {log : List Int} (h : i < len) (ha : ¬ (E i).acc) (he : ¬ (E i).ends last) (r : Run E len (i + 1) last log j lj) : Run E len i last log j lj
  | acc {i j : Nat} {last lj v : Int} {log : List Int} (h : i < len) (ha : (E i).acc) (r : Run E len (i + 1) ((E i).after last v) log j lj) : Run E len i last (v :: log) j lj

section
variable {E : Nat → Ins} {len : Nat}
theorem Run.le {i j : Nat} {last lj : Int} {log : List Int} (h : Run E len i last log j lj) : i ≤ j ∧ (i ≤ len → j ≤ len) := by
  induction h with
  | here => exact ⟨Nat.le_refl _, id⟩
  | skip h _ _ _ ih => exact ⟨by omega, fun _ => ih.2 (by omega)⟩
  | acc h _ _ ih => exact ⟨by omega, fun _ => ih.2 (by omega)⟩
theorem Run.trans {i j k : Nat} {last lj lk : Int} {log log2 : List Int} (h : Run E len i last log j lj) (h2 : Run E len j lj log2 k lk) : Run E len i last (log ++ log2) k lk := by
  induction h with
  | here => exact h2
  | skip h ha he _ ih => exact .skip h ha he (ih h2)
  | acc h ha _ ih => exact .acc h ha (ih h2)
theorem Run.snoc {i j : Nat} {last lj v : Int} {log : List Int} (h : Run E len i last log j lj) (hj : j < len) (ha : (E j).acc) : Run E len i last (log ++ [v]) (j + 1) ((E j).after lj v) :=
  h.trans (.acc hj ha (.here _ _))

/-- One round of a program. -/
theorem progN_end {n i : Nat} {last : Int} {st : St} (h : (E i).ends last) : progN E n i last st = st := by
  cases n with
  | zero => rfl
  | succ n => unfold Ins.ends at h; simp [progN, h]
theorem progN_off {n i : Nat} {last : Int} {st : St} (h : st.off = true) : progN E n i last st = st := by
  cases n with
  | zero => rfl
  | succ n => simp [progN, h]
theorem progN_skip {n i : Nat} {last : Int} {st : St} (ha : ¬ (E i).acc) (he : ¬ (E i).ends last) : progN E (n + 1) i last st = progN E n (i + 1) last st := by
  by_cases ho : st.off = true
  · rw [progN_off ho, progN_off ho]
  · unfold Ins.acc at ha
    unfold Ins.ends at he
    have h0 : ¬ ((E i).op = 0 ∨ (E i).op = 2) := by omega
    have h1 : ¬ (E i).op = 1 := by omega
    have h3 : ¬ (E i).op = 3 := by omega
    simp [progN, ho, he, h0, h1, h3]
theorem progN_load {n i : Nat} {last : Int} {st : St} (ho : st.off = false) (h : (E i).op = 0 ∨ (E i).op = 2) : progN E (n + 1) i last st = progN E n (i + 1) (st.load (addrOf (E i) last)).1 (st.load (addrOf (E i) last)).2 := by
  have he : ¬ ((E i).op = 4 ∧ last % 2 = 1) := by omega
  simp [progN, ho, he, h]
theorem progN_store {n i : Nat} {last : Int} {st : St} (ho : st.off = false) (h : (E i).op = 1 ∨ (E i).op = 3) : progN E (n + 1) i last st = progN E n (i + 1) last (st.store (addrOf (E i) last) ((E i).val last)) := by
  have he : ¬ ((E i).op = 4 ∧ last % 2 = 1) := by omega
  have h0 : ¬ ((E i).op = 0 ∨ (E i).op = 2) := by omega
  have h2 : ¬ (E i).op = 2 := by omega
  rcases h with h | h
  · simp [progN, ho, h, addrOf, Ins.val]
  · simp [progN, ho, h, addrOf, Ins.val]

/-- What was made is passed. -/
theorem progN_run {i j : Nat} {last lj : Int} {rest : List Int} (h : Run E len i last rest j lj) : ∀ (done : List Int) (st : St), st.off = false → st.log = done ++ rest → st.at_ = done.length →
    progN E (len - i) i last st = progN E (len - j) j lj { st with at_ := st.log.length } := by
  induction h with
  | here i last =>
    intro done st _ hl ha
    have : ({ st with at_ := st.log.length } : St) = st := by
      have e : st.log.length = st.at_ := by rw [hl, ha]; simp
      rw [e]
    rw [this]
  | @skip i j last lj log h hac he _ ih =>
    intro done st ho hl ha
    obtain ⟨n, hn⟩ : ∃ n, len - i = n + 1 := ⟨len - i - 1, by omega⟩
    rw [hn, progN_skip hac he, show n = len - (i + 1) by omega]
    exact ih done st ho hl ha
  | @acc i j last lj v log h hac _ ih =>
    intro done st ho hl ha
    obtain ⟨n, hn⟩ : ∃ n, len - i = n + 1 := ⟨len - i - 1, by omega⟩
    have hlt : st.at_ < st.log.length := by rw [hl, ha]; simp
    have hv : st.log.getD st.at_ 0 = v := by rw [hl, ha]; simp [List.getD_eq_getElem?_getD]
    have e2 := ih (done ++ [v]) { st with at_ := st.at_ + 1 } ho (by simp [hl]) (by simp [ha])
    rw [hn, ← e2, show n = len - (i + 1) by omega]
    by_cases hx : (E i).op = 0 ∨ (E i).op = 2
    · rw [show len - (i + 1) + 1 = n + 1 by omega, progN_load ho hx, show n = len - (i + 1) by omega]
      have : st.load (addrOf (E i) last) = (v, { st with at_ := st.at_ + 1 }) := by rw [← hv]; simp [St.load, hlt]
      rw [this]
      simp [Ins.after, hx]
    · have hx' : (E i).op = 1 ∨ (E i).op = 3 := by unfold Ins.acc at hac; omega
      rw [show len - (i + 1) + 1 = n + 1 by omega, progN_store ho hx', show n = len - (i + 1) by omega]
      have : st.store (addrOf (E i) last) ((E i).val last) = { st with at_ := st.at_ + 1 } := by simp [St.store, hlt]
      rw [this]
      simp [Ins.after, hx]

/-- Does an access come? -/
def nxt (E : Nat → Ins) : Nat → Nat → Int → Bool
  | 0, _, _ => false
  | n + 1, i, last => if (E i).ends last then false else if (E i).acc then true else nxt E n (i + 1) last
/-- Where it comes, or the end. -/
def pos (E : Nat → Ins) : Nat → Nat → Int → Nat
  | 0, i, _ => i
  | n + 1, i, last => if (E i).ends last then i else if (E i).acc then i else pos E n (i + 1) last

theorem progN_made : ∀ (n i : Nat) (last : Int) (st : St), st.off = false → st.made = true → st.at_ = st.log.length → progN E n i last st = { st with off := nxt E n i last }
  | 0, i, last, st, ho, _, _ => by simp [progN, nxt, ← ho]
  | n + 1, i, last, st, ho, hm, ha => by
    by_cases he : (E i).ends last
    · rw [progN_end he]; simp [nxt, he, ← ho]
    · by_cases hac : (E i).acc
      · have hlt : ¬ st.at_ < st.log.length := by omega
        by_cases hx : (E i).op = 0 ∨ (E i).op = 2
        · rw [progN_load ho hx]
          have : st.load (addrOf (E i) last) = (0, { st with off := true }) := by simp [St.load, hlt, hm]
          rw [this, progN_off rfl]
          simp [nxt, he, hac]
        · have hx' : (E i).op = 1 ∨ (E i).op = 3 := by unfold Ins.acc at hac; omega
          rw [progN_store ho hx']
          have : st.store (addrOf (E i) last) ((E i).val last) = { st with off := true } := by simp [St.store, hlt, hm]
          rw [this, progN_off rfl]
          simp [nxt, he, hac]
      · rw [progN_skip hac he, progN_made n (i + 1) last st ho hm ha]
        simp [nxt, he, hac]

/-- The state behind an access that is made. -/
def St.access (st : St) (x : Ins) (last : Int) : St :=
  if x.op = 0 ∨ x.op = 2 then { st with made := true, off := false, log := st.log ++ [st.cs.getD (addrOf x last).toNat 0], at_ := st.log.length + 1, l := st.l + 1 }
  else { st with made := true, off := false, log := st.log ++ [0], at_ := st.log.length + 1, cs := st.cs.set (addrOf x last).toNat (x.val last), s := st.s + 1 }
/-- What was read last behind it. -/
def St.then (st : St) (x : Ins) (last : Int) : Int := x.after last (st.cs.getD (addrOf x last).toNat 0)

theorem access_plain (st : St) (x : Ins) (last : Int) : (st.access x last).made = true ∧ (st.access x last).off = false ∧ (st.access x last).at_ = (st.access x last).log.length ∧ (st.access x last).over = st.over ∧ (st.access x last).err = st.err ∧ (st.access x last).cs.length = st.cs.length ∧ (st.access x last).log.length = st.log.length + 1 := by
  unfold St.access
  split <;> simp

/-- From where nothing more was made: the end, no cell, or the next access. -/
theorem progN_next : ∀ (n i : Nat) (last : Int) (st : St), i + n = len → st.off = false → st.made = false → st.at_ = st.log.length →
    Run E len i last [] (pos E n i last) last ∧ (nxt E n i last = true → pos E n i last < len ∧ (E (pos E n i last)).acc) ∧
    progN E n i last st = (if nxt E n i last = true then
        if okAt st.cs.length (addrOf (E (pos E n i last)) last) = true then { st.access (E (pos E n i last)) last with off := nxt E (len - (pos E n i last + 1)) (pos E n i last + 1) (st.then (E (pos E n i last)) last) }
        else { st with made := true, off := true, over := true, err := 2 }
      else st)
  | 0, i, last, st, _, _, _, _ => ⟨.here _ _, by simp [nxt], by simp [progN, nxt]⟩
  | n + 1, i, last, st, hlen, ho, hm, ha => by
    by_cases he : (E i).ends last
    · rw [progN_end he]
      simp [nxt, pos, he, Run.here]
    · by_cases hac : (E i).acc
      · have e1 : nxt E (n + 1) i last = true := by simp [nxt, he, hac]
        have e2 : pos E (n + 1) i last = i := by simp [pos, hac]
        rw [e1, e2]
        refine ⟨.here _ _, fun _ => ⟨by omega, hac⟩, ?_⟩
        have hlt : ¬ st.at_ < st.log.length := by omega
        simp only [if_true]
        by_cases hx : (E i).op = 0 ∨ (E i).op = 2
        · rw [progN_load ho hx]
          cases hok : okAt st.cs.length (addrOf (E i) last) with
          | true =>
            have : st.load (addrOf (E i) last) = (st.then (E i) last, st.access (E i) last) := by simp [St.load, hm, hok, St.then, Ins.after, hx, St.access, ha]
            obtain ⟨p1, p2, p3, _⟩ := access_plain st (E i) last
            rw [this, progN_made n (i + 1) _ _ p2 p1 p3]
            simp [show len - (i + 1) = n by omega]
          | false =>
            have : st.load (addrOf (E i) last) = (0, { st with made := true, off := true, over := true, err := 2 }) := by simp [St.load, hlt, hm, hok]
            rw [this, progN_off rfl]
            simp
        · have hx' : (E i).op = 1 ∨ (E i).op = 3 := by unfold Ins.acc at hac; omega
          rw [progN_store ho hx']
          cases hok : okAt st.cs.length (addrOf (E i) last) with
          | true =>
            have : st.store (addrOf (E i) last) ((E i).val last) = st.access (E i) last := by simp [St.store, hm, hok, hx, St.access, ha]
            have e3 : st.then (E i) last = last := by simp [St.then, Ins.after, hx]
            obtain ⟨p1, p2, p3, _⟩ := access_plain st (E i) last
            rw [this, progN_made n (i + 1) _ _ p2 p1 p3, e3]
            simp [show len - (i + 1) = n by omega]
          | false =>
            have : st.store (addrOf (E i) last) ((E i).val last) = { st with made := true, off := true, over := true, err := 2 } := by simp [St.store, hlt, hm, hok]
            rw [this, progN_off rfl]
            simp
      · obtain ⟨h1, h2, h3⟩ := progN_next n (i + 1) last st (by omega) ho hm ha
        have e1 : nxt E (n + 1) i last = nxt E n (i + 1) last := by simp [nxt, he, hac]
        have e2 : pos E (n + 1) i last = pos E n (i + 1) last := by simp [pos, he, hac]
        rw [progN_skip hac he, e1, e2]
        exact ⟨.skip (by omega) hac he h1, h2, h3⟩

/-- A Step of a run that is not over. -/
theorem step_char {st : St} {A : Nat} {last : Int} (hr : Run E len 0 0 st.log A last) (hov : st.over = false) (hof : st.off = false) :
    Run E len 0 0 st.log (pos E (len - A) A last) last ∧ (nxt E (len - A) A last = true → pos E (len - A) A last < len ∧ (E (pos E (len - A) A last)).acc) ∧
    st.step E len = (if nxt E (len - A) A last = true then
        if okAt st.cs.length (addrOf (E (pos E (len - A) A last)) last) = true then
          { st.access (E (pos E (len - A) A last)) last with over := !nxt E (len - (pos E (len - A) A last + 1)) (pos E (len - A) A last + 1) (st.then (E (pos E (len - A) A last)) last), off := st.err != 0 }
        else { st with at_ := st.log.length, made := true, off := true, over := true, err := 2 }
      else { st with at_ := st.log.length, made := false, over := true, off := st.err != 0 }) := by
  obtain ⟨log, at_, made, off, over, err, cs, l, s⟩ := st
  simp only at hov hof hr
  subst hov hof
  have hle := hr.le.2 (Nat.zero_le _)
  obtain ⟨h1, h2, h3⟩ := progN_next (E := E) (len := len) (len - A) A last ⟨log, log.length, false, false, false, err, cs, l, s⟩ (by omega) rfl rfl rfl
  have h4 := progN_run hr [] ⟨log, 0, false, false, false, err, cs, l, s⟩ rfl (by simp) rfl
  rw [Nat.sub_zero] at h4
  refine ⟨by simpa using hr.trans h1, h2, ?_⟩
  unfold St.step
  simp only [Bool.false_eq_true, if_false]
  rw [h4, h3]
  by_cases hn : nxt E (len - A) A last = true
  · simp only [hn, if_true]
    cases hok : okAt cs.length (addrOf (E (pos E (len - A) A last)) last) with
    | true =>
      have e : (⟨log, log.length, false, false, false, err, cs, l, s⟩ : St).access (E (pos E (len - A) A last)) last = (⟨log, at_, made, false, false, err, cs, l, s⟩ : St).access (E (pos E (len - A) A last)) last := by unfold St.access; split <;> rfl
      have e2 := access_plain ⟨log, at_, made, false, false, err, cs, l, s⟩ (E (pos E (len - A) A last)) last
      simp only [if_true]
      rw [e]
      simp [e2.2.2.2.1, e2.2.2.2.2.1, St.then]
    | false => simp
  · simp [hn]
end
end Go.Proofs.Ytdmcnlkmfohmdaa
