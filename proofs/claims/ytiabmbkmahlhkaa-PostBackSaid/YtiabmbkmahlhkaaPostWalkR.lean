/-
  A walk as a program, in the plainest order: the word, then, at a slab's first word, its link. Without the program's text.
-/
import Derived.Test.YtiabmbkmahlhkaaPostPure
namespace Go.Proofs.Ytiabmbkmahlhkaa
open Go.RowKit

/-- At most so many words more, behind those that were read. -/
def wR (B S : Nat → Int) : Nat → Int → List Nat → Pr (List Nat)
  | 0, _, acc => .ret acc
  | f + 1, t, acc =>
    if atOf B S t = 0 then .ret acc
    else .load t fun x => if atOf B S t = 1 then .load (t - 1) fun y => wR B S f y (acc ++ [x.toNat]) else wR B S f (t - 1) (acc ++ [x.toNat])
def walkR (B S : Nat → Int) (C t : Int) : Pr (List Nat) := wR B S C.toNat t []
theorem wR_sure {B S : Nat → Int} {C : Int} (hL : Laid B S C) {cs : List Int} {D : Int → Prop} : ∀ {a : Int} {ws : List Nat}, Chain B S cs D a ws → ∀ (f : Nat) (acc : List Nat), ws.length ≤ f → Sure C.toNat (fun b y => D b → y = cs.getD b.toNat 0) (2 * ws.length) (wR B S f a acc) (acc ++ ws) := by
  intro a ws h
  induction h with
  | nil =>
    intro f acc _
    rw [List.append_nil]
    cases f with
    | zero => exact .ret _ _
    | succ f =>
      unfold wR
      rw [if_pos (hL.zero (by omega)).1]
      exact .ret _ _
  | @deep a x ws h1 h2 h3 h4 ih =>
    intro f acc hf
    cases f with
    | zero => simp at hf
    | succ f =>
      have ha := hL.at_ (show 0 < atOf B S a by omega)
      unfold wR
      rw [if_neg (by omega)]
      rw [show 2 * (x :: ws).length = (2 * ws.length + 1) + 1 by simp; omega]
      refine .load (by omega) (by omega) fun v hv => ?_
      rw [if_neg (by omega)]
      have e := hv h2
      rw [h3] at e
      subst e
      rw [Int.toNat_natCast]
      have := ih f (acc ++ [x]) (by simp at hf; omega)
      rw [List.append_assoc] at this
      exact this.more _ (by omega)
  | @edge a b x ws h1 h2 h3 h4 h5 h6 h7 ih =>
    intro f acc hf
    cases f with
    | zero => simp at hf
    | succ f =>
      have ha := hL.at_ (show 0 < atOf B S a by omega)
      unfold wR
      rw [if_neg (by omega)]
      rw [show 2 * (x :: ws).length = (2 * ws.length + 1) + 1 by simp; omega]
      refine .load (by omega) (by omega) fun v hv => ?_
      rw [if_pos h1]
      have e := hv h2
      rw [h4] at e
      subst e
      rw [Int.toNat_natCast]
      refine .load (by omega) (by omega) fun y hy => ?_
      have e := hy h3
      rw [h5] at e
      subst e
      have := ih f (acc ++ [x]) (by simp at hf; omega)
      rw [List.append_assoc] at this
      exact this
theorem walkR_sure (B S : Nat → Int) (C : Int) (cs : List Int) (D : Int → Prop) (a : Int) (ws : List Nat) (hL : Laid B S C) (h : Chain B S cs D a ws) : Sure C.toNat (fun b y => D b → y = cs.getD b.toNat 0) (2 * ws.length) (walkR B S C a) ws := by
  have hl := h.len hL
  have := wR_sure hL h C.toNat [] (by
    by_cases hw : ws = []
    · subst hw; simp
    · have := hl.2.2 hw; omega)
  exact this
/-- Two stores, whatever the run is like. -/
theorem on_one {α : Type} {st : St} (a v : Int) (x : α) : ((Pr.store a v (.ret x)).on st).2 = st.store a (u32 v) ∧ ∀ y, ((Pr.store a v (.ret x)).on st).1 = some y → y = x := by
  unfold Pr.on
  split
  · exact ⟨rfl, fun y h => by cases h⟩
  · exact ⟨rfl, fun y h => by cases h; rfl⟩
theorem on_two {α : Type} {st : St} {Bd : Nat} (hf : st.Fine Bd) (a v b u : Int) (x : α) : ((Pr.store a v (.store b u (.ret x))).on st).2 = (st.store a (u32 v)).store b (u32 u) ∧ ∀ y, ((Pr.store a v (.store b u (.ret x))).on st).1 = some y → y = x := by
  have h1 := hf.store a v
  unfold Pr.on
  split
  · rename_i ho
    exact ⟨(St.store_off h1.good ho b _).symm, fun y h => by cases h⟩
  · exact on_one b u x
/-- A walk's first load, whatever the run is like. -/
theorem on_load {α : Type} {st : St} (a : Int) (k : Int → Pr α) : (Pr.load a k).on st = if (st.load a).2.off = true then (none, (st.load a).2) else (k (st.load a).1).on (st.load a).2 := rfl
end Go.Proofs.Ytiabmbkmahlhkaa
