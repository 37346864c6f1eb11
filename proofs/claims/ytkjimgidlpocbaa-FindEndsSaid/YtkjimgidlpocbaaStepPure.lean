/-
  Programs that go on one access at a time, without the program's text: what a Load, a Store, a program and a Step do to a run's state.
-/
import Derived.Test.YtkjimgidlpocbaaMemB
namespace Go.Proofs.Ytkjimgidlpocbaa
open Go.RowKit

/-- An instruction. -/
structure Ins where
  op : Int
  a : Int
  v : Int
instance : Inhabited Ins := ⟨⟨0, 0, 0⟩⟩
def addrOf (x : Ins) (last : Int) : Int := if x.op = 2 then last % (x.v + 1) else x.a

/-- A run's state, with its memory's. -/
structure St where
  log : List Int
  at_ : Nat
  made : Bool
  off : Bool
  over : Bool
  err : Int
  cs : List Int
  l : Int
  s : Int

def St.load (st : St) (a : Int) : Int × St :=
  if st.at_ < st.log.length then (st.log.getD st.at_ 0, { st with at_ := st.at_ + 1 })
  else if st.made = true then (0, { st with off := true })
  else if okAt st.cs.length a = true then (st.cs.getD a.toNat 0, { st with made := true, off := false, log := st.log ++ [st.cs.getD a.toNat 0], at_ := st.at_ + 1, l := st.l + 1 })
  else (0, { st with made := true, off := true, over := true, err := 2 })
def St.store (st : St) (a v : Int) : St :=
  if st.at_ < st.log.length then { st with at_ := st.at_ + 1 }
  else if st.made = true then { st with off := true }
  else if okAt st.cs.length a = true then { st with made := true, off := false, log := st.log ++ [0], at_ := st.at_ + 1, cs := st.cs.set a.toNat v, s := st.s + 1 }
  else { st with made := true, off := true, over := true, err := 2 }

/-- A program's last n instructions, from the i-th on. -/
def progN (E : Nat → Ins) : Nat → Nat → Int → St → St
  | 0, _, _, st => st
  | n + 1, i, last, st =>
    if st.off = true then st
    else if (E i).op = 4 ∧ last % 2 = 1 then st
    else if (E i).op = 0 ∨ (E i).op = 2 then progN E n (i + 1) (st.load (addrOf (E i) last)).1 (st.load (addrOf (E i) last)).2
    else if (E i).op = 1 then progN E n (i + 1) last (st.store (E i).a (E i).v)
    else if (E i).op = 3 then progN E n (i + 1) last (st.store (E i).a (IntKind.u32.wrap (last + (E i).v)))
    else progN E n (i + 1) last st
/-- What a Step makes of a run. -/
def St.step (st : St) (E : Nat → Ins) (len : Nat) : St :=
  if st.over = true then st
  else
    let t := progN E len 0 0 { st with at_ := 0, made := false }
    { t with over := t.over || !t.off, off := t.err != 0 }

/-- A number that fits 32 bits. -/
def U (x : Int) : Prop := 0 ≤ x ∧ x ≤ 4294967295
theorem u_zero : U 0 := ⟨by omega, by omega⟩
theorem u_wrap (x : Int) : U (IntKind.u32.wrap x) := by
  have : IntKind.u32.wrap x = x % 4294967296 := by simp [IntKind.wrap, IntKind.signed, IntKind.bits]
  rw [this]; exact ⟨by omega, by omega⟩
theorem u_getD {l : List Int} (h : ∀ x ∈ l, U x) (i : Nat) : U (l.getD i 0) := by
  rw [List.getD_eq_getElem?_getD]
  cases e : l[i]? with
  | none => exact u_zero
  | some x => exact h x (List.mem_of_getElem? e)

/-- What is true of every state: B: more accesses than this there are not. -/
structure St.Ok (st : St) (B : Nat) : Prop where
  at_le : st.at_ ≤ st.log.length
  log_le : st.log.length + (if st.made = true then 0 else 1) ≤ B
  l0 : 0 ≤ st.l
  s0 : 0 ≤ st.s
  sum : st.l + st.s + (if st.made = true then 0 else 1) ≤ B
  log_u : ∀ x ∈ st.log, U x
  cs_u : ∀ x ∈ st.cs, U x

theorem St.Ok.load {st : St} {B : Nat} (h : st.Ok B) (a : Int) : (st.load a).2.Ok B ∧ U (st.load a).1 := by
  obtain ⟨h1, h2, h3, h4, h5, h6, h7⟩ := h
  unfold St.load
  split
  · exact ⟨⟨by simp; omega, h2, h3, h4, h5, h6, h7⟩, u_getD h6 _⟩
  · split
    · exact ⟨⟨h1, h2, h3, h4, h5, h6, h7⟩, u_zero⟩
    · rename_i hm
      simp only [hm] at h2 h5
      split
      · refine ⟨⟨by simp; omega, by simp; simp at h2; omega, by simp; omega, h4, by simp; simp at h5; omega, ?_, h7⟩, u_getD h7 _⟩
        intro x hx
        rcases List.mem_append.1 hx with hx | hx
        · exact h6 x hx
        · simp at hx; rw [hx]; exact u_getD h7 _
      · exact ⟨⟨h1, by simp; simp at h2; omega, h3, h4, by simp; simp at h5; omega, h6, h7⟩, u_zero⟩
theorem St.Ok.store {st : St} {B : Nat} (h : st.Ok B) (a v : Int) (hv : U v) : (st.store a v).Ok B := by
  obtain ⟨h1, h2, h3, h4, h5, h6, h7⟩ := h
  unfold St.store
  split
  · exact ⟨by simp; omega, h2, h3, h4, h5, h6, h7⟩
  · split
    · exact ⟨h1, h2, h3, h4, h5, h6, h7⟩
    · rename_i hm
      simp only [hm] at h2 h5
      split
      · refine ⟨by simp; omega, by simp; simp at h2; omega, h3, by simp; omega, by simp; simp at h5; omega, ?_, ?_⟩
        · intro x hx
          rcases List.mem_append.1 hx with hx | hx
          · exact h6 x hx
          · simp at hx; rw [hx]; exact u_zero
        · intro x hx
          rcases List.mem_or_eq_of_mem_set hx with hx | hx
          · exact h7 x hx
          · rw [hx]; exact hv
      · exact ⟨h1, by simp; simp at h2; omega, h3, h4, by simp; simp at h5; omega, h6, h7⟩
theorem progN_ok {E : Nat → Ins} (hE : ∀ i, U (E i).v) {B : Nat} : ∀ (n i : Nat) (last : Int) (st : St), st.Ok B → (progN E n i last st).Ok B
  | 0, _, _, _, h => h
  | n + 1, i, last, st, h => by
    unfold progN
    split
    · exact h
    split
    · exact h
    split
    · exact progN_ok hE n _ _ _ (h.load _).1
    split
    · exact progN_ok hE n _ _ _ (h.store _ _ (hE i))
    split
    · exact progN_ok hE n _ _ _ (h.store _ _ (u_wrap _))
    · exact progN_ok hE n _ _ _ h
end Go.Proofs.Ytkjimgidlpocbaa
