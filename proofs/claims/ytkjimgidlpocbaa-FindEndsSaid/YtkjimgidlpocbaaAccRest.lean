/-
  A function of the program that goes as a program of accesses: what is left of it, at any place of its walk; its run and its memory. Over the program's own text.
-/
import Derived.Test.YtkjimgidlpocbaaAccStep
namespace Go.Proofs.Ytkjimgidlpocbaa
open Go.RowKit
variable {α : Type}

/-- The rest q on this state is what the whole p is on the first one; or the run is off, and nothing more is done. -/
def Rest (p q : Pr α) (st0 st : St) : Prop := (st.off = true ∧ p.on st0 = (none, st)) ∨ q.on st = p.on st0
theorem on_load' (a : Int) (k : Int → Pr α) (st : St) : (Pr.load a k).on st = if (st.load a).2.off = true then (none, (st.load a).2) else (k (st.load a).1).on (st.load a).2 := rfl
theorem on_store' (a v : Int) (k : Pr α) (st : St) : (Pr.store a v k).on st = if (st.store a (u32 v)).off = true then (none, st.store a (u32 v)) else k.on (st.store a (u32 v)) := rfl
section
variable {p q : Pr α} {st0 st : St} {Bd : Nat}
theorem Rest.start (p : Pr α) (st : St) : Rest p p st st := .inr rfl
theorem Rest.load {a : Int} {k : Int → Pr α} (h : Rest p (.load a k) st0 st) (hf : st.Fine Bd) : Rest p (k (st.load a).1) st0 (st.load a).2 := by
  rcases h with ⟨h1, h2⟩ | h
  · have e := St.load_off hf.good h1 a
    rw [e]
    exact .inl ⟨h1, h2⟩
  · rw [on_load'] at h
    split at h
    · rename_i h2
      exact .inl ⟨h2, h.symm⟩
    · exact .inr h
theorem Rest.store {a v : Int} {k : Pr α} (h : Rest p (.store a v k) st0 st) (hf : st.Fine Bd) : Rest p k st0 (st.store a (u32 v)) := by
  rcases h with ⟨h1, h2⟩ | h
  · have e := St.store_off hf.good h1 a (u32 v)
    rw [e]
    exact .inl ⟨h1, h2⟩
  · rw [on_store'] at h
    split at h
    · rename_i h2
      exact .inl ⟨h2, h.symm⟩
    · exact .inr h
/-- The end. -/
def Ended (p : Pr α) (x : α) (st0 st : St) : Prop := (p.on st0).2 = st ∧ ∀ y, (p.on st0).1 = some y → y = x
theorem Rest.ret {x : α} (h : Rest p (.ret x) st0 st) : Ended p x st0 st := by
  unfold Ended
  rcases h with ⟨_, h2⟩ | h
  · rw [h2]
    exact ⟨rfl, fun y hy => by cases hy⟩
  · rw [← h]
    exact ⟨rfl, fun y hy => by cases hy; rfl⟩
/-- It is off: whatever is told. -/
theorem Rest.off (h : Rest p q st0 st) (hf : st.Fine Bd) (ho : st.off = true) (hq : q.isRet = false) (x : α) : Ended p x st0 st := by
  have e : p.on st0 = (none, st) := by
    rcases h with ⟨_, h2⟩ | h
    · exact h2
    · rw [← h]
      cases q with
      | ret y => cases hq
      | load a k => unfold Pr.on; rw [St.load_off hf.good ho a, if_pos ho]
      | store a v k => unfold Pr.on; rw [St.store_off hf.good ho a (u32 v), if_pos ho]
  unfold Ended
  rw [e]
  exact ⟨rfl, fun y hy => by cases hy⟩
theorem Rest.same {q' : Pr α} (h : Rest p q st0 st) (e : q = q') : Rest p q' st0 st := e ▸ h
end

/-- Once off, nothing is done. -/
theorem on_off {β : Type} (q : Pr β) {st : St} (hg : st.Good) (ho : st.off = true) : (q.on st).2 = st := by
  cases q with
  | ret x => rfl
  | load a k => rw [on_load', St.load_off hg ho a, if_pos ho]
  | store a v k => rw [on_store', St.store_off hg ho a (u32 v), if_pos ho]
theorem on_seq {β : Type} (p : Pr α) (q : Pr β) {st : St} {Bd : Nat} (hf : st.Fine Bd) : ((p.bind fun _ => q).on st).2 = (q.on (p.on st).2).2 := by
  rw [on_bind]
  cases h : (p.on st).1 with
  | some x => rfl
  | none => exact (on_off q (on_fine p st hf).good (on_none p st h)).symm
theorem Does.bind {β : Type} {p : Pr α} {f : α → Pr β} {cs cs1 cs2 : List Int} {n m : Nat} {x : α} {y : β} (h : Does p cs n x cs1) (k : Does (f x) cs1 m y cs2) : Does (p.bind f) cs (n + m) y cs2 := by
  induction h with
  | ret x cs => rw [Nat.zero_add]; exact k
  | @load a kk cs cs' n x h1 h2 _ ih =>
    rw [Nat.add_right_comm]
    exact .load h1 h2 (ih k)
  | @store a v kk cs cs' n x h1 h2 _ ih =>
    rw [Nat.add_right_comm]
    exact .store h1 h2 (ih k)

/-- A run on its way through a function that began in the world W. -/
structure RunW (W : World) (rb mb cb : Nat) (go0 : Option Nat) (st : St) (go : Option Nat) (w : World) : Prop where
  old : rb < W.heap.size ∧ mb < W.heap.size ∧ cb < W.heap.size
  rm : RM w rb mb cb go true st
  adv : Adv rb mb cb W go0 w go
section
variable {W w w' : World} {rb mb cb : Nat} {go0 go go' : Option Nat} {st st' : St}
theorem RunW.start (h : RM W rb mb cb go true st) : RunW W rb mb cb go st go W := ⟨⟨h.lt rb (.inl rfl), h.lt mb (.inr (.inr (.inl rfl))), h.lt cb (.inr (.inr (.inr rfl)))⟩, h, Adv.of_below (Below.refl _ _)⟩
theorem RunW.below (h : RunW W rb mb cb go0 st go w) (hb : Below w.heap.size w w') : RunW W rb mb cb go0 st go w' := ⟨h.old, h.rm.below hb, h.adv.trans (Adv.of_below hb)⟩
theorem RunW.access (h : RunW W rb mb cb go0 st go w) (hr : RM w' rb mb cb go' true st') (ha : Adv rb mb cb w go w' go') : RunW W rb mb cb go0 st' go' w' := ⟨h.old, hr, h.adv.trans ha⟩
/-- A block of one's own is none of the run's. -/
theorem RunW.far (h : RunW W rb mb cb go0 st go w) {k : Nat} {c : Array Value} {t : TypeId} (hk : w.heap[k]? = some (.cells c t (0, 0))) (hW : W.heap.size ≤ k) (ht : t ≠ 52) : ¬ Feet rb mb cb go k := by
  obtain ⟨o1, o2, o3⟩ := h.old
  rintro (e | e | e | e)
  · omega
  · obtain ⟨cap, hr⟩ := h.rm.run
    have hl := hr.row
    rw [e] at hl
    obtain ⟨cur, h4, _⟩ := hl
    rw [h4] at hk
    injection hk with hk
    injection hk with _ h5
    exact ht h5.symm
  · omega
  · omega
theorem RunW.stays (h : RunW W rb mb cb go0 st go w) (ha : Adv rb mb cb w go w' go') {k : Nat} {c : Array Value} {t : TypeId} (hk : w.heap[k]? = some (.cells c t (0, 0))) (hW : W.heap.size ≤ k) (ht : t ≠ 52) : w'.heap[k]? = some (.cells c t (0, 0)) :=
  (ha.mod.block k (lt_of_heap hk) (h.far hk hW ht)).trans hk
/-- A block below the function's beginning, and none of the run's, stays. -/
theorem RunW.cell (h : RunW W rb mb cb go0 st go w) (hg : ∀ g, go0 = some g → g < W.heap.size) {k : Nat} (hk : k < W.heap.size) (hn : ¬ Feet rb mb cb go0 k) : w.heap[k]? = W.heap[k]? := by
  have := hg
  exact h.adv.mod.block k hk hn
/-- A block of one's own turns. -/
theorem RunW.turn (h : RunW W rb mb cb go0 st go w) {k : Nat} (hk : ¬ Feet rb mb cb go k) (hW : W.heap.size ≤ k) (hm : Mod (fun j => j = k) w w') : RunW W rb mb cb go0 st go w' :=
  ⟨h.old, h.rm.mod hm fun j hj e => by subst e; exact hk hj, h.adv.grows, h.adv.mod.then hm fun i hi e => by omega⟩
end
end Go.Proofs.Ytkjimgidlpocbaa
