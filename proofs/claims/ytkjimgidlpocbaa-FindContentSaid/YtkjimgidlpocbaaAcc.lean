/-
  Programs of accesses as trees, without the program's text: what one makes of a run's state, what a Step makes of it, what it does at once, and what it reads whoever stores between its Steps.
-/
import Derived.Test.YtkjimgidlpocbaaStepPure
namespace Go.Proofs.Ytkjimgidlpocbaa
open Go.RowKit

/-- A program: it ends, or loads and goes on with what it read, or stores and goes on. -/
inductive Pr (α : Type) where
  | ret (x : α)
  | load (a : Int) (k : Int → Pr α)
  | store (a v : Int) (k : Pr α)
variable {α β : Type}
def u32 (v : Int) : Int := IntKind.u32.wrap v
theorem u32_in {v : Int} (h : U v) : u32 v = v := IntWalk.u32_in _ (by have := h.1; have := h.2; omega)
def Pr.bind : Pr α → (α → Pr β) → Pr β
  | .ret x, f => f x
  | .load a k, f => .load a fun v => (k v).bind f
  | .store a v k, f => .store a v (k.bind f)

/-- What a program makes of a run's state: its answer, if the run is not off. -/
def Pr.on : Pr α → St → Option α × St
  | .ret x, st => (some x, st)
  | .load a k, st => if (st.load a).2.off = true then (none, (st.load a).2) else (k (st.load a).1).on (st.load a).2
  | .store a v k, st => if (st.store a (u32 v)).off = true then (none, st.store a (u32 v)) else k.on (st.store a (u32 v))

/-- Where a run is off, no further access does anything. -/
def St.Good (st : St) : Prop := st.off = true → st.made = true ∧ st.at_ = st.log.length
theorem St.load_off {st : St} (h : st.Good) (ho : st.off = true) (a : Int) : st.load a = (0, st) := by
  obtain ⟨h1, h2⟩ := h ho
  unfold St.load
  rw [if_neg (by omega), if_pos h1]
  cases st
  simp_all
theorem St.store_off {st : St} (h : st.Good) (ho : st.off = true) (a v : Int) : st.store a v = st := by
  obtain ⟨h1, h2⟩ := h ho
  unfold St.store
  rw [if_neg (by omega), if_pos h1]
  cases st
  simp_all
theorem St.Good.load {st : St} (h : st.Good) (hat : st.at_ ≤ st.log.length) (a : Int) : (st.load a).2.Good := by
  unfold St.load
  split
  · intro ho
    have := h ho
    omega
  · split
    · intro _
      exact ⟨by assumption, by show st.at_ = st.log.length; omega⟩
    · split
      · intro ho
        simp at ho
      · intro _
        exact ⟨rfl, by show st.at_ = st.log.length; omega⟩
theorem St.Good.store {st : St} (h : st.Good) (hat : st.at_ ≤ st.log.length) (a v : Int) : (st.store a v).Good := by
  unfold St.store
  split
  · intro ho
    have := h ho
    omega
  · split
    · intro _
      exact ⟨by assumption, by show st.at_ = st.log.length; omega⟩
    · split
      · intro ho
        simp at ho
      · intro _
        exact ⟨rfl, by show st.at_ = st.log.length; omega⟩
/-- All that is true of a state within a Step. -/
structure St.Fine (st : St) (B : Nat) : Prop where
  ok : st.Ok B
  good : st.Good
theorem St.Fine.load {st : St} {B : Nat} (h : st.Fine B) (a : Int) : (st.load a).2.Fine B := ⟨(h.ok.load a).1, h.good.load h.ok.at_le a⟩
theorem St.Fine.store {st : St} {B : Nat} (h : st.Fine B) (a v : Int) : (st.store a (u32 v)).Fine B := ⟨h.ok.store a _ (u_wrap v), h.good.store h.ok.at_le a _⟩
theorem on_fine {B : Nat} : ∀ (p : Pr α) (st : St), st.Fine B → (p.on st).2.Fine B
  | .ret _, _, h => h
  | .load a k, st, h => by
    unfold Pr.on
    split
    · exact h.load a
    · exact on_fine (k _) _ (h.load a)
  | .store a v k, st, h => by
    unfold Pr.on
    split
    · exact h.store a v
    · exact on_fine k _ (h.store a v)
theorem on_none : ∀ (p : Pr α) (st : St), (p.on st).1 = none → (p.on st).2.off = true
  | .ret _, _, h => by simp [Pr.on] at h
  | .load a k, st, h => by
    unfold Pr.on at h ⊢
    split
    · assumption
    · rename_i ho
      rw [if_neg ho] at h
      exact on_none (k _) _ h
  | .store a v k, st, h => by
    unfold Pr.on at h ⊢
    split
    · assumption
    · rename_i ho
      rw [if_neg ho] at h
      exact on_none k _ h
theorem on_some : ∀ (p : Pr α) (st : St) (x : α), st.off = false → (p.on st).1 = some x → (p.on st).2.off = false
  | .ret _, _, _, h, _ => h
  | .load a k, st, x, ho, h => by
    unfold Pr.on at h ⊢
    split
    · rename_i h1
      rw [if_pos h1] at h
      simp at h
    · rename_i h1
      rw [if_neg h1] at h
      exact on_some (k _) _ x (by simpa using h1) h
  | .store a v k, st, x, ho, h => by
    unfold Pr.on at h ⊢
    split
    · rename_i h1
      rw [if_pos h1] at h
      simp at h
    · rename_i h1
      rw [if_neg h1] at h
      exact on_some k _ x (by simpa using h1) h
/-- One behind the other. -/
theorem on_bind (f : α → Pr β) : ∀ (p : Pr α) (st : St), (p.bind f).on st = match (p.on st).1 with
    | some x => (f x).on (p.on st).2
    | none => (none, (p.on st).2)
  | .ret _, _ => rfl
  | .load a k, st => by
    simp only [Pr.bind, Pr.on]
    by_cases h : (st.load a).2.off = true
    · rw [if_pos h, if_pos h]
    · rw [if_neg h, if_neg h]
      exact on_bind f (k _) _
  | .store a v k, st => by
    simp only [Pr.bind, Pr.on]
    by_cases h : (st.store a (u32 v)).off = true
    · rw [if_pos h, if_pos h]
    · rw [if_neg h, if_neg h]
      exact on_bind f k _

/-! ### What a Step makes of it -/
/-- The rest, behind so many answers. -/
def Pr.after : Pr α → List Int → Pr α
  | p, [] => p
  | .ret x, _ :: _ => .ret x
  | .load _ k, v :: l => (k v).after l
  | .store _ _ k, _ :: l => k.after l
/-- So many answers are not too many. -/
def Pr.Fits : Pr α → List Int → Prop
  | _, [] => True
  | .ret _, _ :: _ => False
  | .load _ k, v :: l => (k v).Fits l
  | .store _ _ k, _ :: l => k.Fits l
theorem fits_nil (p : Pr α) : p.Fits [] := by cases p <;> trivial
theorem after_nil (p : Pr α) : p.after [] = p := by cases p <;> rfl
theorem after_snoc : ∀ (l : List Int) (p : Pr α) (v : Int), p.after (l ++ [v]) = (p.after l).after [v]
  | [], p, v => by rw [after_nil]; rfl
  | y :: l, p, v => by
    cases p with
    | ret x => simp [Pr.after]
    | load a k => exact after_snoc l (k y) v
    | store a u k => exact after_snoc l k v
theorem fits_snoc : ∀ (l : List Int) (p : Pr α) (v : Int), p.Fits l → (p.after l).Fits [v] → p.Fits (l ++ [v])
  | [], p, v, _, h => by rw [after_nil] at h; exact h
  | y :: l, p, v, h1, h2 => by
    cases p with
    | ret x => exact h1
    | load a k => exact fits_snoc l (k y) v h1 h2
    | store a u k => exact fits_snoc l k v h1 h2
theorem on_replay : ∀ (l2 l1 : List Int) (p : Pr α) (st : St), st.log = l1 ++ l2 → st.at_ = l1.length → st.off = false → p.Fits l2 → p.on st = (p.after l2).on { st with at_ := st.log.length }
  | [], l1, p, st, h1, h2, _, _ => by
    rw [after_nil]
    have : ({ st with at_ := st.log.length } : St) = st := by
      cases st
      simp_all
    rw [this]
  | v :: l2, l1, p, st, h1, h2, h3, h4 => by
    have hlt : st.at_ < st.log.length := by rw [h1, h2]; simp
    have hv : st.log.getD st.at_ 0 = v := by rw [h1, h2]; simp
    have hl : ({ st with at_ := st.at_ + 1 } : St).log = (l1 ++ [v]) ++ l2 := by show st.log = _; rw [h1]; simp
    have ha : ({ st with at_ := st.at_ + 1 } : St).at_ = (l1 ++ [v]).length := by show st.at_ + 1 = _; rw [h2]; simp
    cases p with
    | ret x => exact h4.elim
    | load a k =>
      have e : st.load a = (v, { st with at_ := st.at_ + 1 }) := by simp only [St.load, if_pos hlt, hv]
      have ih := on_replay l2 (l1 ++ [v]) (k v) { st with at_ := st.at_ + 1 } hl ha h3 h4
      simp only [Pr.on, e]
      rw [if_neg (by simp [h3]), ih]
      rfl
    | store a u k =>
      have e : st.store a (u32 u) = { st with at_ := st.at_ + 1 } := by simp only [St.store, if_pos hlt]
      have ih := on_replay l2 (l1 ++ [v]) k { st with at_ := st.at_ + 1 } hl ha h3 h4
      simp only [Pr.on, e]
      rw [if_neg (by simp [h3]), ih]
      rfl

/-- The end of a Step. -/
def St.shut (t : St) : St := { t with over := t.over || !t.off, off := t.err != 0 }
/-- What a Step makes of a run. -/
def St.stepA (st : St) (p : Pr α) : St := if st.over = true then st else (p.on { st with at_ := 0, made := false }).2.shut
/-- What the program answers in it. -/
def St.ansA (st : St) (p : Pr α) : Option α := (p.on { st with at_ := 0, made := false }).1

/-- One access more. -/
def Pr.next : Pr α → List Int → Pr α × List Int
  | .ret x, cs => (.ret x, cs)
  | .load a k, cs => (k (cs.getD a.toNat 0), cs)
  | .store a v k, cs => (k, cs.set a.toNat (u32 v))
/-- It is at a cell. -/
def Pr.In : Pr α → Nat → Prop
  | .ret _, _ => True
  | .load a _, n => 0 ≤ a ∧ a < n
  | .store a _ _, n => 0 ≤ a ∧ a < n
theorem next_len (q : Pr α) (cs : List Int) : (q.next cs).2.length = cs.length := by
  cases q <;> simp [Pr.next]

/-- Between its Steps: the run p is at the rest q, and not over. -/
structure At (p q : Pr α) (st : St) : Prop where
  fits : p.Fits st.log
  rest : p.after st.log = q
  over : st.over = false
  off : st.off = false
  err : st.err = 0
theorem At.new (p : Pr α) (cs : List Int) (l s : Int) : At p p ⟨[], 0, false, false, false, 0, cs, l, s⟩ := ⟨fits_nil p, after_nil p, rfl, rfl, rfl⟩
/-- Its memory is turned by others. -/
theorem At.turn {p q : Pr α} {st : St} (h : At p q st) (cs : List Int) (l s : Int) : At p q { st with cs := cs, l := l, s := s } := ⟨h.fits, h.rest, h.over, h.off, h.err⟩

theorem on_ahead {p q : Pr α} {st : St} (h : At p q st) : p.on { st with at_ := 0, made := false } = q.on { st with at_ := st.log.length, made := false } := by
  have := on_replay st.log [] p { st with at_ := 0, made := false } (by simp) (by simp) h.off h.fits
  rw [this, h.rest]
/-- What is left behind the one access of a Step. -/
theorem on_far (q : Pr α) (st : St) (h1 : st.made = true) (h2 : st.at_ = st.log.length) : q.on st = match q with
    | .ret x => (some x, st)
    | _ => (none, { st with off := true }) := by
  cases q with
  | ret x => rfl
  | load a k =>
    have e : st.load a = (0, { st with off := true }) := by
      unfold St.load
      rw [if_neg (by omega), if_pos h1]
    simp only [Pr.on, e]
    rfl
  | store a v k =>
    have e : st.store a (u32 v) = { st with off := true } := by
      unfold St.store
      rw [if_neg (by omega), if_pos h1]
    simp only [Pr.on, e]
    rfl
def Pr.isRet : Pr α → Bool
  | .ret _ => true
  | _ => false
def Pr.ans : Pr α → Option α
  | .ret x => some x
  | _ => none
theorem on_far' (q : Pr α) (st : St) (h1 : st.made = true) (h2 : st.at_ = st.log.length) (h3 : st.off = false) : (q.on st).1 = q.ans ∧ (q.on st).2 = { st with off := !q.isRet } := by
  rw [on_far q st h1 h2]
  cases q with
  | ret x => exact ⟨rfl, by cases st; simp_all [Pr.isRet]⟩
  | load a k => exact ⟨rfl, rfl⟩
  | store a v k => exact ⟨rfl, rfl⟩

/-- A Step's outcome. -/
structure Stepped (p q : Pr α) (cs : List Int) (st st' : St) (n : Option α) : Prop where
  ans : n = (q.next cs).1.ans
  cells : st'.cs = (q.next cs).2
  over : st'.over = (q.next cs).1.isRet
  at_ : (q.next cs).1.isRet = false → At p (q.next cs).1 st'
  err : st'.err = 0
  count : st'.log.length ≤ st.log.length + 1
  sum : st'.l + st'.s ≤ st.l + st.s + 1
  l0 : st.l ≤ st'.l
  s0 : st.s ≤ st'.s
theorem step_next {p q : Pr α} {st : St} (h : At p q st) (hin : q.In st.cs.length) : Stepped p q st.cs st (st.stepA p) (st.ansA p) := by
  have ho := on_ahead h
  have e1 : st.stepA p = (q.on { st with at_ := st.log.length, made := false }).2.shut := by
    unfold St.stepA
    rw [if_neg (by simp [h.over]), ho]
  have e2 : st.ansA p = (q.on { st with at_ := st.log.length, made := false }).1 := by unfold St.ansA; rw [ho]
  rw [e1, e2]
  clear e1 e2 ho
  unfold St.shut
  cases q with
  | ret x => exact ⟨rfl, rfl, by simp [Pr.on, h.off, h.over, Pr.next, Pr.isRet], by simp [Pr.next, Pr.isRet], h.err, by simp [Pr.on], by simp only [Pr.on]; omega, by simp [Pr.on], by simp [Pr.on]⟩
  | load a k =>
    obtain ⟨h1, h2⟩ := hin
    have e : ({ st with at_ := st.log.length, made := false } : St).load a = (st.cs.getD a.toNat 0, { st with made := true, off := false, log := st.log ++ [st.cs.getD a.toNat 0], at_ := st.log.length + 1, l := st.l + 1 }) := by
      have hk := okAt_yes h1 h2
      simp [St.load, hk]
    have hf := on_far' (k (st.cs.getD a.toNat 0)) { st with made := true, off := false, log := st.log ++ [st.cs.getD a.toNat 0], at_ := st.log.length + 1, l := st.l + 1 } rfl (by simp) rfl
    simp only [Pr.on, e]
    rw [if_neg (by simp), hf.1, hf.2]
    refine ⟨rfl, rfl, by simp [h.over, Pr.next], fun hr => ⟨fits_snoc _ _ _ h.fits (by rw [h.rest]; exact fits_nil _), ?_, by simp [h.over]; exact hr, by simp [h.err], h.err⟩, h.err, by simp, by simp; omega, by simp; omega, by simp⟩
    show p.after (st.log ++ _) = _
    rw [after_snoc, h.rest]
    simp only [Pr.after, Pr.next]
  | store a v k =>
    obtain ⟨h1, h2⟩ := hin
    have e : ({ st with at_ := st.log.length, made := false } : St).store a (u32 v) = { st with made := true, off := false, log := st.log ++ [0], at_ := st.log.length + 1, cs := st.cs.set a.toNat (u32 v), s := st.s + 1 } := by
      have hk := okAt_yes h1 h2
      simp [St.store, hk]
    have hf := on_far' k { st with made := true, off := false, log := st.log ++ [0], at_ := st.log.length + 1, cs := st.cs.set a.toNat (u32 v), s := st.s + 1 } rfl (by simp) rfl
    simp only [Pr.on, e]
    rw [if_neg (by simp), hf.1, hf.2]
    refine ⟨rfl, rfl, by simp [h.over, Pr.next], fun hr => ⟨fits_snoc _ _ _ h.fits (by rw [h.rest]; exact fits_nil _), ?_, by simp [h.over]; exact hr, by simp [h.err], h.err⟩, h.err, by simp, by simp; omega, by simp, by simp; omega⟩
    show p.after (st.log ++ _) = _
    rw [after_snoc, h.rest]
    simp only [Pr.after, Pr.next]
/-- A state at the beginning of a Step. -/
theorem At.fine {p q : Pr α} {st : St} (h : At p q st) {B : Nat} (hl : st.log.length + 1 ≤ B) (h0 : 0 ≤ st.l) (h1 : 0 ≤ st.s) (h2 : st.l + st.s + 1 ≤ B) (hlu : ∀ x ∈ st.log, U x) (hcu : ∀ x ∈ st.cs, U x) : ({ st with at_ := 0, made := false } : St).Fine B :=
  ⟨⟨Nat.zero_le _, by simp; omega, h0, h1, by simp; omega, hlu, hcu⟩, fun ho => by have := h.off; simp_all⟩

/-! ### At once -/
/-- On these cells it does n accesses, answers x, and leaves those. -/
inductive Does : Pr α → List Int → Nat → α → List Int → Prop
  | ret (x : α) (cs : List Int) : Does (.ret x) cs 0 x cs
  | load {a : Int} {k : Int → Pr α} {cs cs' : List Int} {n : Nat} {x : α} : 0 ≤ a → a < cs.length → Does (k (cs.getD a.toNat 0)) cs n x cs' → Does (.load a k) cs (n + 1) x cs'
  | store {a v : Int} {k : Pr α} {cs cs' : List Int} {n : Nat} {x : α} : 0 ≤ a → a < cs.length → Does k (cs.set a.toNat (u32 v)) n x cs' → Does (.store a v k) cs (n + 1) x cs'
theorem Does.step {q : Pr α} {cs cs' : List Int} {n : Nat} {x : α} (h : Does q cs n x cs') : q.In cs.length ∧ Does (q.next cs).1 (q.next cs).2 (n - 1) x cs' ∧ (0 < n ∨ (q.next cs).1 = .ret x) := by
  cases h with
  | ret => exact ⟨trivial, .ret _ _, .inr rfl⟩
  | load h1 h2 h3 => exact ⟨⟨h1, h2⟩, h3, .inl (by omega)⟩
  | store h1 h2 h3 => exact ⟨⟨h1, h2⟩, h3, .inl (by omega)⟩
theorem Does.end_ {y : α} {cs cs' : List Int} {n : Nat} {x : α} (h : Does (.ret y) cs n x cs') : y = x ∧ cs' = cs ∧ n = 0 := by
  cases h
  exact ⟨rfl, rfl, rfl⟩
theorem Does.len {q : Pr α} {cs cs' : List Int} {n : Nat} {x : α} (h : Does q cs n x cs') : cs'.length = cs.length := by
  induction h with
  | ret => rfl
  | load _ _ _ ih => exact ih
  | store _ _ _ ih => rw [ih, List.length_set]

/-! ### Whoever stores between its Steps -/
/-- It loads alone, at most n times, and answers x, as long as each cell holds what R says of it. -/
inductive Sure (len : Nat) (R : Int → Int → Prop) : Nat → Pr α → α → Prop
  | ret (n : Nat) (x : α) : Sure len R n (.ret x) x
  | load {a : Int} {k : Int → Pr α} {n : Nat} {x : α} : 0 ≤ a → a < len → (∀ v, R a v → Sure len R n (k v) x) → Sure len R (n + 1) (.load a k) x
theorem Sure.step {len n : Nat} {R : Int → Int → Prop} {q : Pr α} {x : α} (h : Sure len R n q x) {cs : List Int} (hl : cs.length = len) (hR : ∀ a : Nat, a < len → R a (cs.getD a 0)) : q.In cs.length ∧ Sure len R (n - 1) (q.next cs).1 x ∧ (q.next cs).2 = cs ∧ (0 < n ∨ (q.next cs).1 = .ret x) := by
  cases h with
  | ret => exact ⟨trivial, .ret _ _, rfl, .inr rfl⟩
  | @load a k m _ h1 h2 h3 =>
    obtain ⟨b, rfl⟩ := Int.eq_ofNat_of_zero_le h1
    exact ⟨⟨h1, by omega⟩, h3 _ (by simpa using hR b (by omega)), rfl, .inl (by omega)⟩
theorem Sure.end_ {len n : Nat} {R : Int → Int → Prop} {y x : α} (h : Sure len R n (.ret y) x) : y = x := by
  cases h
  rfl
theorem Sure.does {len : Nat} {R : Int → Int → Prop} {cs : List Int} (hl : cs.length = len) (hR : ∀ a : Nat, a < len → R a (cs.getD a 0)) : ∀ {n : Nat} {q : Pr α} {x : α}, Sure len R n q x → ∃ m, m ≤ n ∧ Does q cs m x cs := by
  intro n q x h
  induction h with
  | ret n x => exact ⟨0, Nat.zero_le _, .ret _ _⟩
  | load h1 h2 _ ih =>
    obtain ⟨b, rfl⟩ := Int.eq_ofNat_of_zero_le h1
    obtain ⟨m, hm, hd⟩ := ih (cs.getD b 0) (hR b (by omega))
    exact ⟨m + 1, by omega, .load h1 (by omega) (by simpa using hd)⟩
theorem Sure.mono {len n : Nat} {R R' : Int → Int → Prop} {q : Pr α} {x : α} (h : Sure len R n q x) (hR : ∀ a v, R' a v → R a v) : Sure len R' n q x := by
  induction h with
  | ret n x => exact .ret _ _
  | load h1 h2 _ ih => exact .load h1 h2 fun v hv => ih v (hR _ _ hv)
theorem Sure.more {len n : Nat} {R : Int → Int → Prop} {q : Pr α} {x : α} (h : Sure len R n q x) : ∀ m, n ≤ m → Sure len R m q x := by
  induction h with
  | ret n x => exact fun m _ => .ret _ _
  | load h1 h2 _ ih =>
    intro m hm
    obtain ⟨j, rfl⟩ : ∃ j, m = j + 1 := ⟨m - 1, by omega⟩
    exact .load h1 h2 fun v hv => ih v hv j (by omega)
end Go.Proofs.Ytkjimgidlpocbaa
