/-
  A region that draws its order, within a round of a range over a function: as in Region, under the round's fence. Over any program. Nothing of one layer stands here.
-/
import Derived.RangeFuncBox
import Derived.OwnWalkIn
import Derived.RangeFuncCalls
import Derived.OrdersIn
import Derived.Test.YtpmhkmakkeckkaaRegionC
namespace Go.Proofs.Ytpmhkmakkeckkaa
open Go.RowKit

section
variable {P : Program} {ops : Array Oper}
theorem any_late {σ : Type} {a0 : Act} {w : World} {Q : Exit → Act → World → Prop} (V : σ → Nat → Value) (R : σ → (Nat → Bool) → World → Prop) (aT : σ → Act)
    (L : Nat → Nat → Bool) (hB : regionL L ops a0.tmps.size = true) (hT : ∀ s, aT s = putTo ops (V s) a0 ops.size) (s0 : σ) (h0 : R s0 (fun _ => false) w.drew)
    (hcon : ∀ l, ClosedL ops l → ∀ i j, L i j = true → l j = true → l i = true) (hlate : ∀ s l wx, R s l wx → ∀ i j d, L i j = true → dstOf ops j = some d → l j = false → a0.tmps[d]? = some (V s j))
    (step : ∀ (i : Nat) (o : Oper), ops[i]? = some o → ∀ (s : σ) (l : Nat → Bool) (wx : World), R s l wx → l i = false → (∀ e ∈ o.after, Region.binds .any e = true → l e.on = true) →
      ∀ K : Act → World → Prop, (∀ (s' : σ) (w' : World), (∀ j, l j = true → V s' j = V s j) → R s' (fun j => j == i || l j) w' → K ((aT s).put o.dst (V s' i)) w') →
        if Region.wanted o (yielded ops (aT s).tmps) then o.wp P (aT s) wx K NoWay else K ((aT s).put o.dst undef) wx)
    (fin : ∀ (s : σ) (l : Nat → Bool) (wx : World), (∀ j, j < ops.size → l j = true) → R s l wx → Q .normal (aT s) wx) : wpAny P .any ops Q ops.size (Array.replicate ops.size false) a0 w.drew := by
  have hf := Fair.of hB
  have main : ∀ (fuel : Nat) (listed : Array Bool) (a : Act) (wx : World) (s : σ), listed.size = ops.size → listed.toList.count false ≤ fuel → Slots ops (V s) a0 (fun j => listed.getD j false) a → ClosedL ops (fun j => listed.getD j false) → R s (fun j => listed.getD j false) wx →
      wpAny P .any ops Q fuel listed a wx := by
    intro fuel
    have done : ∀ (listed : Array Bool) (a : Act) (wx : World) (s : σ), listed.size = ops.size → Slots ops (V s) a0 (fun j => listed.getD j false) a → R s (fun j => listed.getD j false) wx → Region.ready .any ops listed = [] → Q .normal a wx := by
      intro listed a wx s hs hS hR hr
      have hl := all_listed hf hs hr
      have := hS.same (Slots.putTo hf (V s) a0 rfl ops.size) hl (fun j hj => by simpa using hj)
      rw [this, ← hT]
      exact fin s _ wx hl hR
    induction fuel with
    | zero =>
      intro listed a wx s hs hc hS hCl hR
      have hr : Region.ready .any ops listed = [] := by
        cases hr : Region.ready .any ops listed with
        | nil => rfl
        | cons i is =>
          have hi : i ∈ Region.ready .any ops listed := by rw [hr]; exact List.mem_cons_self
          obtain ⟨h1, o, ho, _⟩ := mem_ready.1 hi
          have hlt := (Array.getElem?_eq_some_iff.1 ho).1
          have : false ∈ listed.toList := by
            have hlt' : i < listed.size := by omega
            have h2 : listed[i] = false := by simpa [hlt'] using h1
            rw [← h2]
            exact List.mem_of_getElem (i := i) (h := by simpa using hlt') (by simp)
          have := List.count_pos_iff.2 this
          omega
      exact ⟨hr, done listed a wx s hs hS hR hr⟩
    | succ fuel ih =>
      intro listed a wx s hs hc hS hCl hR
      refine ⟨done listed a wx s hs hS hR, fun i hi => ?_⟩
      obtain ⟨h1, o, ho, hedge⟩ := mem_ready.1 hi
      have hlt := (Array.getElem?_eq_some_iff.1 ho).1
      have hlt' : i < listed.size := by omega
      have h1' := getD_both h1
      have hTs := Slots.putTo hf (V s) a0 rfl ops.size
      rw [← hT] at hTs
      have hd : ∀ x, o.dst = some x → x < a0.tmps.size := fun x hx => hf.lt i x ((dstOf_of ho).trans hx)
      have hcount : (listed.setIfInBounds i true).toList.count false ≤ fuel := by
        have h2 : listed[i] = false := by simpa [hlt'] using h1
        have : listed.toList.count false = (listed.setIfInBounds i true).toList.count false + 1 := by
          rw [Array.toList_setIfInBounds, List.count_set (by simpa using hlt')]
          have hp : 0 < listed.toList.count false := List.count_pos_iff.2 (by
            rw [← h2]
            exact List.mem_of_getElem (i := i) (h := by simpa using hlt') (by simp))
          rw [Array.count_toList] at hp
          simp [h2]
          omega
        omega
      have next : ∀ (s' : σ) (w' : World), (∀ j, listed.getD j false = true → V s' j = V s j) → R s' (fun j => j == i || listed.getD j false) w' →
          wpAny P .any ops Q fuel (listed.setIfInBounds i true) (a.put o.dst (V s' i)) w' := by
        intro s' w' hV hR'
        have e : (fun j => (listed.setIfInBounds i true).getD j false) = (fun j => j == i || listed.getD j false) := funext fun j => getD_set listed i j hlt'
        refine ih _ _ w' s' (by simpa using hs) hcount ?_ ?_ (by rw [e]; exact hR')
        rotate_left
        · rw [e]
          intro k ok hok hk e2 he2 hb2
          simp only [Bool.or_eq_true, beq_iff_eq] at hk ⊢
          rcases hk with rfl | hk
          · obtain rfl : o = ok := Option.some.inj (ho.symm.trans hok)
            exact .inr (hedge e2 he2 hb2)
          · exact .inr (hCl k ok hok hk e2 he2 hb2)
        have := Slots.put hf hS rfl i (fun j => getD_set listed i j hlt') h1' hV
        rw [dstOf_of ho] at this
        exact this
      have st := step i o ho s _ wx hR h1' (fun e he hb => hedge e he hb)
      have hL : ∀ j d, L i j = true → dstOf ops j = some d → listed.getD j false = false ∧ a0.tmps[d]? = some (V s j) := by
        intro j d hlj hdj
        have hj : listed.getD j false = false := by
          cases hx : listed.getD j false with
          | false => rfl
          | true => have := hcon _ hCl i j hlj hx; rw [h1'] at this; cases this
        exact ⟨hj, hlate s _ wx hR i j d hlj hdj hj⟩
      unfold wpOp
      simp only [ho]
      rw [Slots.wanted hf hS hTs ho (fun e he hb => hedge e he hb) hL]
      have hsz : (aT s).tmps.size = a0.tmps.size := hTs.size
      by_cases hw : Region.wanted o (yielded ops (aT s).tmps) = true
      · simp only [hw, if_true] at st ⊢
        refine .inl (wp_carry (Slots.exec hf hS hTs ho (fun e he hb => hedge e he hb) hL) (st _ ?_) (put_inj hS.size hsz hd))
        intro s' w' hV hR'
        exact ⟨V s' i, rfl, next s' w' hV hR'⟩
      · simp only [hw, if_false, Bool.false_eq_true] at st ⊢
        have := st (fun a' w' => ∃ v, a' = (aT s).put o.dst v ∧ wpAny P .any ops Q fuel (listed.setIfInBounds i true) (a.put o.dst v) w') (fun s' w' hV hR' => ⟨V s' i, rfl, next s' w' hV hR'⟩)
        obtain ⟨v, hv, hk⟩ := this
        rw [put_inj hS.size hsz hd undef v hv]
        exact hk
  refine main ops.size _ a0 _ s0 (by simp) (by simp) ?_ ?_ ?_
  rotate_left
  · have e : (fun j => (Array.replicate ops.size false).getD j false) = fun _ => false := funext fun j => getD_replicate_false _ _
    rw [e]
    intro k ok hok hk
    cases hk
  rotate_left
  · have e : (fun j => (Array.replicate ops.size false).getD j false) = fun _ => false := funext fun j => getD_replicate_false _ _
    rw [e]
    exact Slots.start _ _
  · have e : (fun j => (Array.replicate ops.size false).getD j false) = fun _ => false := funext fun j => getD_replicate_false _ _
    rw [e]
    exact h0
def plainOps (ops : Array Oper) : Bool := ops.all fun o => match o.op with | .defer _ => false | _ => true
theorem plain_at {i : Nat} {o : Oper} (h : plainOps ops = true) (ho : ops[i]? = some o) : ∀ c, o.op ≠ .defer c := by
  intro c hc
  obtain ⟨hlt, he⟩ := Array.getElem?_eq_some_iff.1 ho
  have := (Array.all_eq_true.1 h) i hlt
  rw [he, hc] at this
  cases this
/-- Without a way out but its end. -/
def OnlyEnd (Q : Exit → Act → World → Prop) : Exit → Act → World → Prop
  | .normal, a, w => Q .normal a w
  | _, _, _ => False
theorem oper_in {l n : Nat} {o : Oper} {a : Act} {w : World} {K K' : Act → World → Prop} {Q : Exit → Act → World → Prop} (hnd : ∀ c, o.op ≠ .defer c) (hk : ∀ a w, K a w → K' a w) (h : o.wp P a w K (OnlyEnd Q)) : o.wpIn (Fence.wide.inRound l) n P a w K' Q := by
  unfold Oper.wp at h
  unfold Oper.wpIn
  refine ⟨fun _ _ => trivial, ?_⟩
  rw [Oper.semAt_plain _ _ _ hnd]
  generalize (execOp a.eval o).run P w = r at h ⊢
  cases r with
  | ok x w' =>
    cases x with
    | value v => exact hk _ _ h
    | skip => exact hk _ _ h
    | defer d => exact hk _ _ h
    | enter f args =>
      refine ⟨fun hd => by simp [Fence.inRound, Fence.wide] at hd, ?_⟩
      have h' : Calls P f args w' _ := h
      refine CallsIn.inRound l (callsIn_wide.2 (h'.mono ?_))
      intro e w2 he
      cases e with
      | returned v => exact hk _ _ he
      | panicked c => exact he.elim
      | outgrown => obtain ⟨_, _, he⟩ := he; exact he.elim
    | row r args =>
      refine ⟨fun hd => by simp [Fence.inRound, Fence.wide] at hd, ?_⟩
      have h' : Rows P r args w' _ := h
      intro c cs _
      obtain ⟨v, w2, hr, hs⟩ := h' c cs
      exact ⟨v, w2, hk _ _ hr, stepsIn_wide.2 hs⟩
    | _ => exact h.elim
  | halt s w' =>
    cases s with
    | panic v => exact (show False from h).elim
    | _ => exact h.elim
theorem any_in {l n : Nat} {Q : Exit → Act → World → Prop} (hp : plainOps ops = true) : ∀ (fuel : Nat) (listed : Array Bool) (a : Act) (w : World), wpAny P .any ops (OnlyEnd Q) fuel listed a w → wpAnyIn (Fence.wide.inRound l) n P .any ops Q fuel listed a w
  | 0, listed, a, w, h => h
  | fuel + 1, listed, a, w, h => by
    refine ⟨h.1, fun i hi => ?_⟩
    have h2 := h.2 i hi
    unfold wpOp at h2
    unfold wpOpIn
    cases ho : ops[i]? with
    | none => rw [ho] at h2; exact any_in hp fuel _ a w h2
    | some o =>
      rw [ho] at h2
      simp only at h2 ⊢
      split
      · rename_i hw
        rw [if_pos hw] at h2
        rcases h2 with h2 | ⟨_, h2⟩
        · exact oper_in (plain_at hp ho) (fun a w hk => any_in hp fuel _ a w hk) h2
        · obtain ⟨_, _, h2⟩ := h2
          exact h2.elim
      · rename_i hw
        rw [if_neg hw] at h2
        exact ⟨fun _ _ => trivial, any_in hp fuel _ _ w h2⟩
theorem wpIn_region_cl {σ : Type} {id l' n : Nat} {a0 : Act} {w : World} {Q : Exit → Act → World → Prop} (V : σ → Nat → Value) (R : σ → (Nat → Bool) → World → Prop) {aT : σ → Act}
    (hm : P.follows .mixedOrders = true) (hp : plainOps ops = true) (hB : regionB ops a0.tmps.size = true) (hT : ∀ s, putTo ops (V s) a0 ops.size = aT s) (s0 : σ) (h0 : R s0 (fun _ => false) w.drew)
    (step : ∀ (i : Nat) (o : Oper), ops[i]? = some o → ∀ (s : σ) (l : Nat → Bool) (wx : World), R s l wx → l i = false → (∀ e ∈ o.after, Region.binds .any e = true → l e.on = true) → ClosedL ops l →
      ∀ K : Act → World → Prop, (∀ (s' : σ) (w' : World), (∀ j, l j = true → V s' j = V s j) → R s' (fun j => j == i || l j) w' → K ((aT s).put o.dst (V s' i)) w') →
        if Region.wanted o (yielded ops (aT s).tmps) then o.wp P (aT s) wx K NoWay else K ((aT s).put o.dst undef) wx)
    (fin : ∀ (s : σ) (l : Nat → Bool) (wx : World), (∀ j, j < ops.size → l j = true) → R s l wx → Q .normal (aT s) wx) : (Code.region id ops true).wpIn (Fence.wide.inRound l') n P Q a0 w := by
  refine wpIn_region_any hm (any_in hp _ _ _ _ ?_)
  exact any_late V (fun s l wx => R s l wx ∧ ClosedL ops l) aT (fun _ _ => false) hB (fun s => (hT s).symm) s0 ⟨h0, closed_none⟩ (fun _ _ _ _ h => by cases h) (fun _ _ _ _ _ _ _ h => by cases h)
    (fun i o ho s l wx hR hl he K hK => step i o ho s l wx hR.1 hl he hR.2 K (fun s' w' hV hR' => hK s' w' hV ⟨hR', closed_put hR.2 ho he⟩))
    (fun s l wx hall hR => fin s l wx hall hR.1)
end
end Go.Proofs.Ytpmhkmakkeckkaa
