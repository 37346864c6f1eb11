/-
  Several runs on one memory, with the reference's programs and cells beside them.
-/
import Derived.Test.YtdmcnlkmfohmdaaStepPlaysB
import Derived.Test.YtdmcnlkmfohmdaaStepFixed
namespace Go.Proofs.Ytdmcnlkmfohmdaa
open Go.RowKit

/-- f, but u at k. -/
def upd {α : Type} (f : Nat → α) (k : Nat) (u : α) (j : Nat) : α := if j = k then u else f j
theorem upd_same {α : Type} (f : Nat → α) (k : Nat) (u : α) : upd f k u k = u := by simp [upd]
theorem upd_other {α : Type} (f : Nat → α) {k j : Nat} (u : α) (h : j ≠ k) : upd f k u j = f j := by simp [upd, h]

/-- A row of pointers to runs. -/
def PtrsAt (w : World) (ub n : Nat) (rb : Nat → Nat) : Prop := ∃ cur : Array Value, w.heap[ub]? = some (.cells cur 33 (0, 0)) ∧ ∀ j, j < n → cur[j]? = some (.pointer (some ⟨rb j, 0, none⟩))
/-- A row of the reference's programs. -/
def WantAt (w : World) (vb n : Nat) (p : Nat → PS) : Prop := ∃ cur : Array Value, w.heap[vb]? = some (.cells cur 38 (0, 0)) ∧ ∀ j, j < n → ∀ t, t < 6 → cur[j * 6 + t]? = (progC (p j))[t]?

/-- A run j's state, with the memory's. -/
def St.on (st : St) (cs : List Int) (l s : Int) : St := { st with cs := cs, l := l, s := s }

structure Core (W w : World) (mb cb gb ub vb n kk : Nat) (rb : Nat → Nat) (go : Nat → Option Nat) (st : Nat → St) (p : Nat → PS) (cs csr : List Int) (l s : Int) : Prop where
  low : Below W.heap.size W w
  mem : MemAt w mb cb cs l s
  run : ∀ j, j < n → ∃ cap, RunAt w (rb j) mb (go j) cap (st j).log (st j).at_ false (st j).made (st j).off (st j).over (st j).err
  want : WantAt w vb n p
  ptr : PtrsAt w ub n rb
  row : RowAt w gb csr kk
  gbcb : gb ≠ cb
  far : ∀ j, j < n → go j ≠ some cb ∧ go j ≠ some gb
  apart : ∀ i j, i < n → j < n → i ≠ j → rb i ≠ rb j ∧ ∀ g, go i = some g → go j ≠ some g
  ge : W.heap.size ≤ mb ∧ W.heap.size ≤ cb ∧ W.heap.size ≤ gb ∧ W.heap.size ≤ ub ∧ W.heap.size ≤ vb
  feet : ∀ j, j < n → ∀ k, Foot (rb j) (go j) k → W.heap.size ≤ k

section
variable {W w w' : World} {mb cb gb ub vb n kk : Nat} {rb : Nat → Nat} {go : Nat → Option Nat} {st : Nat → St} {p : Nat → PS} {cs csr : List Int} {l s : Int}

theorem Core.below (h : Core W w mb cb gb ub vb n kk rb go st p cs csr l s) (hb : Below w.heap.size w w') : Core W w' mb cb gb ub vb n kk rb go st p cs csr l s := by
  refine ⟨h.low.trans (hb.mono h.low.size), h.mem.below hb, fun j hj => ?_, ?_, ?_, h.row.below hb, h.gbcb, h.far, h.apart, h.ge, h.feet⟩
  · obtain ⟨cap, hr⟩ := h.run j hj
    exact ⟨cap, hr.below hb⟩
  · obtain ⟨cur, h1, h2⟩ := h.want
    exact ⟨cur, (hb.block _ (lt_of_heap h1)).trans h1, h2⟩
  · obtain ⟨cur, h1, h2⟩ := h.ptr
    exact ⟨cur, (hb.block _ (lt_of_heap h1)).trans h1, h2⟩
theorem Core.drew (h : Core W w mb cb gb ub vb n kk rb go st p cs csr l s) : Core W w.drew mb cb gb ub vb n kk rb go st p cs csr l s :=
  ⟨h.low.drew, h.mem.of_blocks rfl rfl, fun j hj => let ⟨cap, hr⟩ := h.run j hj; ⟨cap, hr.of_blocks fun _ _ => rfl⟩, h.want, h.ptr, ⟨h.row.row, h.row.len, h.row.u⟩, h.gbcb, h.far, h.apart, h.ge, h.feet⟩

/-- The rows lie elsewhere than the runs. -/
theorem Core.rows (h : Core W w mb cb gb ub vb n kk rb go st p cs csr l s) {k : Nat} (hk : k < n) : ¬ Feet (rb k) mb cb (go k) ub ∧ ¬ Feet (rb k) mb cb (go k) vb ∧ ¬ Feet (rb k) mb cb (go k) gb := by
  obtain ⟨cap, hr⟩ := h.run k hk
  obtain ⟨cu, hu, _⟩ := h.ptr
  obtain ⟨cv, hv, _⟩ := h.want
  have hm := h.mem
  refine ⟨?_, ?_, ?_⟩
  · rintro (e | e | e | e)
    · subst e; have := hu.symm.trans hr.rec_; simp at this
    · have hl := hr.row; rw [e] at hl; obtain ⟨cur, h1, _⟩ := hl; have := hu.symm.trans h1; simp at this
    · subst e; have := hu.symm.trans hm.rec_; simp at this
    · subst e; have := hu.symm.trans hm.row; simp at this
  · rintro (e | e | e | e)
    · subst e; have := hv.symm.trans hr.rec_; simp at this
    · have hl := hr.row; rw [e] at hl; obtain ⟨cur, h1, _⟩ := hl; have := hv.symm.trans h1; simp at this
    · subst e; have := hv.symm.trans hm.rec_; simp at this
    · subst e; have := hv.symm.trans hm.row; simp at this
  · rintro (e | e | e | e)
    · subst e; have := h.row.row.symm.trans hr.rec_; simp at this
    · exact (h.far k hk).2 e
    · subst e; have := h.row.row.symm.trans hm.rec_; simp at this
    · exact h.gbcb e
/-- Another run lies elsewhere than a run's own blocks. -/
theorem Core.others (h : Core W w mb cb gb ub vb n kk rb go st p cs csr l s) {j k : Nat} (hj : j < n) (hk : k < n) (hjk : j ≠ k) : ∀ b, Foot (rb j) (go j) b → ¬ Feet (rb k) mb cb (go k) b := by
  obtain ⟨cap, hr⟩ := h.run k hk
  obtain ⟨capj, hrj⟩ := h.run j hj
  obtain ⟨h1, h2⟩ := h.apart j k hj hk hjk
  have hm := h.mem
  rintro b (e | e) (f | f | f | f)
  · exact h1 (e.symm.trans f)
  · subst e; have hl := hr.row; rw [f] at hl; obtain ⟨cur, h3, _⟩ := hl; have := hrj.rec_.symm.trans h3; simp at this
  · subst e; subst f; have := hrj.rec_.symm.trans hm.rec_; simp at this
  · subst e; subst f; have := hrj.rec_.symm.trans hm.row; simp at this
  · subst f; have hl := hrj.row; rw [e] at hl; obtain ⟨cur, h3, _⟩ := hl; have := hr.rec_.symm.trans h3; simp at this
  · exact h2 b e f
  · subst f; have hl := hrj.row; rw [e] at hl; obtain ⟨cur, h3, _⟩ := hl; have := hm.rec_.symm.trans h3; simp at this
  · subst f; exact (h.far j hj).1 e

/-- Run k's Step. -/
theorem Core.step {k lb B : Nat} {E : Nat → Ins} {ao : Option Addr} {len cap : Nat} (h : Core W w mb cb gb ub vb n kk rb go st p cs csr l s) (hk : k < n) (hI : InsAt W (· < W.heap.size) ao len E) (hlen : len ≤ 100)
    (hlb : w.heap[lb]? = some (.cells #[.slice ao len cap] 32 (0, 0))) (hB : B < 1000000000) (hok : ((st k).on cs l s).start.Ok B) :
    Calls Try.prog 13 #[.pointer (some ⟨rb k, 0, none⟩), progV lb] w fun e w' => e = .returned (.bool (((st k).on cs l s).step E len).over) ∧
      ∃ go', Core W w' mb cb gb ub vb n kk rb (upd go k go') (upd st k (((st k).on cs l s).step E len)) p (((st k).on cs l s).step E len).cs csr (((st k).on cs l s).step E len).l (((st k).on cs l s).step E len).s ∧ Below W.heap.size W w' := by
  obtain ⟨rcap, hr⟩ := h.run k hk
  have hm := h.mem
  have hrm : RM w (rb k) mb cb (go k) false ((st k).on cs l s) := ⟨⟨rcap, hr⟩, hm, (h.far k hk).1⟩
  have hW : ∀ b, Feet (rb k) mb cb (go k) b → W.heap.size ≤ b := by
    rintro b (e | e | e | e)
    · exact h.feet k hk b (.inl e)
    · exact h.feet k hk b (.inr e)
    · rw [e]; exact h.ge.1
    · rw [e]; exact h.ge.2.1
  have hlf : ¬ Feet (rb k) mb cb (go k) lb := by
    rintro (e | e | e | e)
    · subst e; have := hlb.symm.trans hr.rec_; simp at this
    · have hl := hr.row; rw [e] at hl; obtain ⟨cur, h1, _⟩ := hl; have := hlb.symm.trans h1; simp at this
    · subst e; have := hlb.symm.trans hm.rec_; simp at this
    · subst e; have := hlb.symm.trans hm.row; simp at this
  refine (step_any (D := (· < W.heap.size)) hrm hB hok (hI.below h.low) hlen (fun b hb hf => by have := hW b hf; omega) (cell_at hlb 0) hlf).mono ?_
  rintro e w' ⟨rfl, go', hrm', ha⟩
  have hlow : Below W.heap.size W w' := h.low.trans (Mod.below ha.mod h.low.size fun b hb hf => by have := hW b hf; omega)
  obtain ⟨k1, k2, k3⟩ := h.rows hk
  refine ⟨rfl, go', ⟨hlow, hrm'.mem, fun j hj => ?_, ?_, ?_, ?_, h.gbcb, fun j hj => ?_, fun i j hi hj hij => ?_, h.ge, fun j hj b hb => ?_⟩, hlow⟩
  · by_cases e : j = k
    · subst e; rw [upd_same, upd_same]; exact hrm'.run
    · rw [upd_other _ _ e, upd_other _ _ e]
      obtain ⟨cap', hrj⟩ := h.run j hj
      exact ⟨cap', hrj.mod ha.mod (h.others hj hk e)⟩
  · obtain ⟨cur, h1, h2⟩ := h.want
    exact ⟨cur, (ha.mod.block _ (lt_of_heap h1) k2).trans h1, h2⟩
  · obtain ⟨cur, h1, h2⟩ := h.ptr
    exact ⟨cur, (ha.mod.block _ (lt_of_heap h1) k1).trans h1, h2⟩
  · exact ⟨(ha.mod.block _ (lt_of_heap h.row.row) k3).trans h.row.row, h.row.len, h.row.u⟩
  · by_cases e : j = k
    · subst e; rw [upd_same]
      refine ⟨hrm'.ne, fun e => ?_⟩
      exact ha.apart (lt_of_heap h.row.row) k3 (.inr (.inl e))
    · rw [upd_other _ _ e]; exact h.far j hj
  · obtain ⟨q1, q2⟩ := h.apart i j hi hj hij
    refine ⟨q1, fun g hg => ?_⟩
    by_cases ei : i = k
    · have ej : j ≠ k := fun e => hij (ei.trans e.symm)
      subst ei
      rw [upd_same] at hg
      rw [upd_other _ _ ej]
      intro hg2
      obtain ⟨capj, hrj⟩ := h.run j hj
      exact ha.apart (hrj.lt g (.inr hg2)) (h.others hj hi ej g (.inr hg2)) (.inr (.inl hg))
    · rw [upd_other _ _ ei] at hg
      by_cases ej : j = k
      · subst ej
        rw [upd_same]
        intro hg2
        obtain ⟨capi, hri⟩ := h.run i hi
        exact ha.apart (hri.lt g (.inr hg)) (h.others hi hj ei g (.inr hg)) (.inr (.inl hg2))
      · rw [upd_other _ _ ej]; exact q2 g hg
  · by_cases e : j = k
    · subst e
      rw [upd_same] at hb
      rcases hb with hb | hb
      · exact h.feet j hj b (.inl hb)
      · rcases ha.grows with e' | ⟨g, e', hg⟩
        · exact h.feet j hj b (.inr (e' ▸ hb))
        · rw [e'] at hb; cases hb; exact Nat.le_trans h.low.size hg
    · rw [upd_other _ _ e] at hb; exact h.feet j hj b hb
end
end Go.Proofs.Ytdmcnlkmfohmdaa
