/-
  The turn's comparison: a region that draws its order and holds seven calls; what holds whatever has come up. And what a turn leaves.
-/
import Derived.Test.YtdmcnlkmfohmdaaStepPlaysD
import Derived.Test.YtdmcnlkmfohmdaaMemSame
import Derived.Test.YtdmcnlkmfohmdaaRegion
namespace Go.Proofs.Ytdmcnlkmfohmdaa
open Go.RowKit

/-- What holds while the comparison's operations come up, in whatever order: the program is made (9), then the Step (10); the cells (58). -/
structure Reg (CB : World → Prop) (CA : Option Nat → World → Prop) (LB QB : Nat → World → Prop) (s : Nat × Option Nat × Nat) (l : Nat → Bool) (wx : World) : Prop where
  bef : l 10 = false → CB wx ∧ (l 9 = true → LB s.1 wx)
  aft : l 10 = true → CA s.2.1 wx
  nine : l 10 = true → l 9 = true
  chain : ∀ j, 16 ≤ j → l j = true → l 10 = true
  cells : l 58 = true → QB s.2.2 wx
section
variable {CB : World → Prop} {CA : Option Nat → World → Prop} {LB QB : Nat → World → Prop} {s : Nat × Option Nat × Nat} {l : Nat → Bool} {wx w' : World}
theorem Reg.early (h : Reg CB CA LB QB s l wx) {i : Nat} (hi : i < 16) (h9 : i ≠ 9) (h10 : i ≠ 10) : Reg CB CA LB QB s (fun j => j == i || l j) wx := by
  have e9 : (9 == i || l 9) = l 9 := by simp [Ne.symm h9]
  have e10 : (10 == i || l 10) = l 10 := by simp [Ne.symm h10]
  have e58 : (58 == i || l 58) = l 58 := by simp; intro e; omega
  refine ⟨by simp only [e9, e10]; exact h.bef, by simp only [e10]; exact h.aft, by simp only [e9, e10]; exact h.nine, fun j hj hl => ?_, by simp only [e58]; exact h.cells⟩
  simp only [e10]
  have : (j == i) = false := by simp; omega
  simp only [this, Bool.false_or] at hl
  exact h.chain j hj hl
theorem Reg.late (h : Reg CB CA LB QB s l wx) (hl : l 10 = true) {i : Nat} (h58 : i ≠ 58) : Reg CB CA LB QB s (fun j => j == i || l j) wx := by
  have e10 : (10 == i || l 10) = true := by simp [hl]
  have e58 : (58 == i || l 58) = l 58 := by simp [Ne.symm h58]
  refine ⟨by simp [hl], fun _ => h.aft hl, fun _ => by simp [h.nine hl], fun _ _ _ => e10, by simp only [e58]; exact h.cells⟩
theorem Reg.h10 (h : Reg CB CA LB QB s l wx) {o : Oper} (he : ∀ e ∈ o.after, Region.binds .any e = true → l e.on = true) (hb : (o.after.any fun e => Region.binds .any e && (e.on == 10 || decide (16 ≤ e.on))) = true) : l 10 = true := by
  rw [Array.any_eq_true] at hb
  obtain ⟨i, hi, hb⟩ := hb
  simp only [Bool.and_eq_true, Bool.or_eq_true, beq_iff_eq, decide_eq_true_eq] at hb
  have := he o.after[i] (Array.getElem_mem hi) hb.1
  rcases hb.2 with e | e
  · rw [← e]; exact this
  · exact h.chain _ e this
theorem Reg.below (h : Reg CB CA LB QB s l wx) (hb : Below wx.heap.size wx w') (h1 : ∀ a b, CB a → Below a.heap.size a b → CB b) (h2 : ∀ g a b, CA g a → Below a.heap.size a b → CA g b) (h3 : ∀ g a b, LB g a → Below a.heap.size a b → LB g b) (h4 : ∀ g a b, QB g a → Below a.heap.size a b → QB g b) : Reg CB CA LB QB s l w' :=
  ⟨fun h0 => ⟨h1 _ _ (h.bef h0).1 hb, fun h9 => h3 _ _ _ ((h.bef h0).2 h9) hb⟩, fun h0 => h2 _ _ _ (h.aft h0) hb, h.nine, h.chain, fun h0 => h4 _ _ _ (h.cells h0) hb⟩
/-- The program is made. -/
theorem Reg.made (h : Reg CB CA LB QB s l wx) (h9 : l 9 = false) (hb : Below wx.heap.size wx w') (h1 : ∀ a b, CB a → Below a.heap.size a b → CB b) {lb : Nat} (hl : LB lb w') : Reg CB CA LB QB (lb, s.2) (fun j => j == 9 || l j) w' := by
  have h10 : l 10 = false := by
    cases e : l 10 with
    | false => rfl
    | true => rw [h.nine e] at h9; cases h9
  have h58 : l 58 = false := by
    cases e : l 58 with
    | false => rfl
    | true => rw [h.chain 58 (by omega) e] at h10; cases h10
  refine ⟨fun _ => ⟨h1 _ _ (h.bef h10).1 hb, fun _ => hl⟩, fun e => by simp [h10] at e, fun e => by simp [h10] at e, fun j hj hl => ?_, fun e => by simp [h58] at e⟩
  have : (j == 9) = false := by simp; omega
  simp only [this, Bool.false_or] at hl
  have := h.chain j hj hl
  simp [this]
/-- The Step is made. -/
theorem Reg.stepped (h : Reg CB CA LB QB s l wx) (h0 : l 10 = false) (h9 : l 9 = true) {g : Option Nat} (hc : CA g w') : Reg CB CA LB QB (s.1, g, s.2.2) (fun j => j == 10 || l j) w' := by
  have h58 : l 58 = false := by
    cases e : l 58 with
    | false => rfl
    | true => rw [h.chain 58 (by omega) e] at h0; cases h0
  exact ⟨fun e => by simp at e, fun _ => hc, fun _ => by simp [h9], fun _ _ _ => by simp, fun e => by simp [h58] at e⟩
/-- The cells are copied. -/
theorem Reg.copied (h : Reg CB CA LB QB s l wx) (h0 : l 10 = true) (hb : Below wx.heap.size wx w') (h2 : ∀ g a b, CA g a → Below a.heap.size a b → CA g b) {q : Nat} (hq : QB q w') : Reg CB CA LB QB (s.1, s.2.1, q) (fun j => j == 58 || l j) w' :=
  ⟨fun e => by simp [h0] at e, fun _ => h2 _ _ _ (h.aft h0) hb, fun _ => by simp [h.nine h0], fun _ _ _ => by simp [h0], fun _ => hq⟩
theorem Reg.any (h : Reg CB CA LB QB s l wx) {X : Prop} (h1 : CB wx → X) (h2 : ∀ g, CA g wx → X) : X := by
  cases e : l 10 with
  | false => exact h1 (h.bef e).1
  | true => exact h2 _ (h.aft e)
end

section
variable {W w w' : World} {mb cb gb ub vb n kk : Nat} {rb : Nat → Nat} {go : Nat → Option Nat} {st : Nat → St} {p : Nat → PS} {cs csr : List Int} {l s : Int}
/-- The reference's cells move. -/
theorem Core.newrow (h : Core W w mb cb gb ub vb n kk rb go st p cs csr l s) (hb : Below w.heap.size w w') {gb' : Nat} {cn : List Int} (hr : RowAt w' gb' cn kk) (hg : gb' = gb ∨ w.heap.size ≤ gb') : Core W w' mb cb gb' ub vb n kk rb go st p cs cn l s := by
  have h' := h.below hb
  refine ⟨h'.low, h'.mem, h'.run, h'.want, h'.ptr, hr, ?_, fun j hj => ⟨(h.far j hj).1, ?_⟩, h.apart, ⟨h.ge.1, h.ge.2.1, ?_, h.ge.2.2.2⟩, h.feet⟩
  · rcases hg with rfl | hg
    · exact h.gbcb
    · rintro rfl; have := lt_of_heap h.mem.row; omega
  · rcases hg with rfl | hg
    · exact (h.far j hj).2
    · intro e
      obtain ⟨cap, hrn⟩ := h.run j hj
      have := hrn.lt gb' (.inr e)
      omega
  · rcases hg with rfl | hg
    · exact h.ge.2.2.1
    · exact Nat.le_trans h.low.size hg
/-- The reference's program k is stored. -/
theorem Core.put (h : Core W w mb cb gb ub vb n kk rb go st p cs csr l s) {k : Nat} (hk : k < n) (pn : PS) (hw : w' = (((((w.setCell ⟨vb, k * 6, none⟩ (.slice pn.ao pn.len pn.cap)).setCell ⟨vb, k * 6 + 1, none⟩ (.int .i64 pn.at_)).setCell ⟨vb, k * 6 + 2, none⟩ (.int .u32 pn.last)).setCell ⟨vb, k * 6 + 3, none⟩ (.bool pn.over)).setCell ⟨vb, k * 6 + 4, none⟩ (.int .i64 pn.err)).setCell ⟨vb, k * 6 + 5, none⟩ (.int .i64 pn.made)) :
    Core W w' mb cb gb ub vb n kk rb go st (upd p k pn) cs csr l s := by
  have hm : Mod (fun b => b = vb) w w' := by
    rw [hw]
    exact Mod.setCell (S := fun b => b = vb) (Mod.setCell (S := fun b => b = vb) (Mod.setCell (S := fun b => b = vb) (Mod.setCell (S := fun b => b = vb) (Mod.setCell (S := fun b => b = vb) (Mod.setCell (S := fun b => b = vb) (Mod.refl _ _) (.inr rfl) _) (.inr rfl) _) (.inr rfl) _) (.inr rfl) _) (.inr rfl) _) (.inr rfl) _
  obtain ⟨k1, k2, k3⟩ := h.rows hk
  have hvm : vb ≠ mb := fun e => k2 (.inr (.inr (.inl e)))
  have hvc : vb ≠ cb := fun e => k2 (.inr (.inr (.inr e)))
  obtain ⟨cv, hv1, hv2⟩ := h.want
  obtain ⟨cu, hu1, hu2⟩ := h.ptr
  have hvu : vb ≠ ub := by rintro rfl; have := hv1.symm.trans hu1; simp at this
  have hvg : vb ≠ gb := by rintro rfl; have := hv1.symm.trans h.row.row; simp at this
  refine ⟨h.low.trans (Mod.below hm h.low.size fun b hb e => by have := h.ge.2.2.2.2; omega), h.mem.mod hm (fun e => hvm e.symm) (fun e => hvc e.symm), fun j hj => ?_, ?_, ⟨cu, (hm.block _ (lt_of_heap hu1) (fun e => hvu e.symm)).trans hu1, hu2⟩, ⟨(hm.block _ (lt_of_heap h.row.row) (fun e => hvg e.symm)).trans h.row.row, h.row.len, h.row.u⟩, h.gbcb, h.far, h.apart, h.ge, h.feet⟩
  · obtain ⟨cap, hr⟩ := h.run j hj
    obtain ⟨_, q2, _⟩ := h.rows hj
    refine ⟨cap, hr.mod hm fun b hb e => q2 ?_⟩
    rcases hb with hb | hb
    · exact .inl (e.symm.trans hb)
    · exact .inr (.inl (e ▸ hb))
  · refine ⟨(((((cv.setIfInBounds (k * 6) (.slice pn.ao pn.len pn.cap)).setIfInBounds (k * 6 + 1) (.int .i64 pn.at_)).setIfInBounds (k * 6 + 2) (.int .u32 pn.last)).setIfInBounds (k * 6 + 3) (.bool pn.over)).setIfInBounds (k * 6 + 4) (.int .i64 pn.err)).setIfInBounds (k * 6 + 5) (.int .i64 pn.made), ?_, ?_⟩
    · rw [hw, heap_setCell_same _ _ _ _ _ _ (heap_setCell_same _ _ _ _ _ _ (heap_setCell_same _ _ _ _ _ _ (heap_setCell_same _ _ _ _ _ _ (heap_setCell_same _ _ _ _ _ _ (heap_setCell_same _ _ _ _ _ _ hv1)))))]
    · intro j hj t ht
      by_cases e : j = k
      · subst e
        rw [upd_same]
        have hz : j * 6 + 5 < cv.size := by
          have := hv2 j hj 5 (by omega)
          exact (Array.getElem?_eq_some_iff.1 (this.trans (show (progC (p j))[5]? = some (.int .i64 (p j).made) from rfl))).1
        rcases t with _ | _ | _ | _ | _ | _ | t
        · simp [Array.getElem?_setIfInBounds, progC]; omega
        · simp [Array.getElem?_setIfInBounds, progC]; omega
        · simp [Array.getElem?_setIfInBounds, progC]; omega
        · simp [Array.getElem?_setIfInBounds, progC]; omega
        · simp [Array.getElem?_setIfInBounds, progC]; omega
        · simp [Array.getElem?_setIfInBounds, progC]; omega
        · omega
      · rw [upd_other _ _ e, ← hv2 j hj t ht]
        have hne : ∀ u, u < 6 → k * 6 + u ≠ j * 6 + t := fun u hu => by omega
        rw [Array.getElem?_setIfInBounds_ne (hne 5 (by omega)), Array.getElem?_setIfInBounds_ne (hne 4 (by omega)), Array.getElem?_setIfInBounds_ne (hne 3 (by omega)), Array.getElem?_setIfInBounds_ne (hne 2 (by omega)), Array.getElem?_setIfInBounds_ne (hne 1 (by omega)), Array.getElem?_setIfInBounds_ne (show k * 6 ≠ j * 6 + t from hne 0 (by omega))]
/-- What the comparison reads of the rows. -/
structure Cmn (ub vb k : Nat) (r : Nat) (pn : PS) (w : World) : Prop where
  u : w.cell? ⟨ub, k, none⟩ = some (.pointer (some ⟨r, 0, none⟩))
  v0 : w.cell? ⟨vb, k * 6, none⟩ = some (.slice pn.ao pn.len pn.cap)
  v3 : w.cell? ⟨vb, k * 6 + 3, none⟩ = some (.bool pn.over)
  v4 : w.cell? ⟨vb, k * 6 + 4, none⟩ = some (.int .i64 pn.err)
  v5 : w.cell? ⟨vb, k * 6 + 5, none⟩ = some (.int .i64 pn.made)
theorem Core.cmn {k : Nat} {pn : PS} (h : Core W w mb cb gb ub vb n kk rb go st (upd p k pn) cs csr l s) (hk : k < n) : Cmn ub vb k (rb k) pn w := by
  obtain ⟨cv, hv1, hv2⟩ := h.want
  obtain ⟨cu, hu1, hu2⟩ := h.ptr
  have hv2 := hv2 k hk
  rw [upd_same] at hv2
  exact ⟨(cell_at hu1 _).trans (hu2 k hk), (cell_at hv1 _).trans (hv2 0 (by omega)), (cell_at hv1 _).trans (hv2 3 (by omega)), (cell_at hv1 _).trans (hv2 4 (by omega)), (cell_at hv1 _).trans (hv2 5 (by omega))⟩
theorem program_heap (w : World) (ao : Option Addr) (len cap : Nat) :
    Calls Try.prog 14 #[.slice ao len cap] w fun e w' => ∃ lb, e = .returned (progV lb) ∧ w'.heap[lb]? = some (.cells #[.slice ao len cap] 32 (0, 0)) ∧ Below w.heap.size w w' := by
  have hmf : ∀ (fn : Fn) (first cap : Array Value) (w : World), (Instr.makeFunc fn first cap).run Try.prog w = .ok (.func fn first cap) w := fun _ _ _ _ => rfl
  go_enter Try.func14, Try.ntmps14
  go_wp2
  go_ret
  exact ⟨_, rfl, heap_alloc_new w _, below_one⟩
theorem on_ok {st ST : St} {B : Nat} (h : (st.on cs l s).start.Ok B) (h2 : ST.start.Ok (B + 1)) : (st.on ST.cs ST.l ST.s).start.Ok (B + 1) :=
  ⟨Nat.zero_le _, by have := h.log_le; simp [St.start, St.on] at this ⊢; omega, h2.l0, h2.s0, h2.sum, h.log_u, h2.cs_u⟩
end
end Go.Proofs.Ytdmcnlkmfohmdaa
