/-
  A region that draws its order, met operation by operation and not order by order: whatever comes up next finds the values of what it waits for, and keeps a condition on the world that may hang on which operations have come up. Over any program. Nothing of one layer stands here.
-/
import Derived.Test.YthkpaelpnofbgaaGreatDoorQsC01
import Derived.Test.YthkpaelpnofbgaaGreatDoorQsC03
import Derived.Orders
import Derived.StillTail
import Derived.Deep.LoopGhost
namespace Go.Proofs.YthkpaelpnofbgaaGreatDoor
open Go.RowKit

section
variable {P : Program} {ops : Array Oper}

/-- No way out is borne. -/
def NoWay : Exit → Act → World → Prop := fun _ _ _ => False
def dstOf (ops : Array Oper) (j : Nat) : Option Tmp := (ops[j]?).bind (·.dst)

/-- The frame behind the first k operations. -/
def putTo (ops : Array Oper) (V : Nat → Value) (a : Act) : Nat → Act
  | 0 => a
  | k + 1 => (putTo ops V a k).put (dstOf ops k) (V k)

/-- The frame behind those operations that have come up. -/
structure Slots (ops : Array Oper) (V : Nat → Value) (a0 : Act) (l : Nat → Bool) (a : Act) : Prop where
  defers : a.defers = a0.defers
  size : a.tmps.size = a0.tmps.size
  set : ∀ j d, dstOf ops j = some d → l j = true → a.tmps[d]? = some (V j)
  old : ∀ t, (∀ j, dstOf ops j = some t → l j = false) → a.tmps[t]? = a0.tmps[t]?

/-- What is asked of a region's text. L: of which pairs the first one looks at what the second one, that comes behind it in each order, turns. -/
def regionL (L : Nat → Nat → Bool) (ops : Array Oper) (n : Nat) : Bool :=
  (List.range ops.size).all fun i => match ops[i]? with
    | none => true
    | some o =>
      (match o.op with | .select _ _ => false | _ => true) &&
      ((match o.dst with | none => true | some d => decide (d < n) && (List.range ops.size).all fun j => j == i || dstOf ops j != some d) &&
      ((o.after.all fun e => !Region.binds .any e || decide (e.on < i)) &&
      (List.range ops.size).all fun j => match dstOf ops j with | none => true | some d => !(o.looksAt ops).contains d || (Region.waitsFor .any ops i j || L i j)))
def regionB (ops : Array Oper) (n : Nat) : Bool := regionL (fun _ _ => false) ops n

structure Fair (L : Nat → Nat → Bool) (ops : Array Oper) (n : Nat) : Prop where
  sel : ∀ (i : Nat) (o : Oper), ops[i]? = some o → ∀ cs b, o.op ≠ .select cs b
  lt : ∀ i d, dstOf ops i = some d → d < n
  one : ∀ i j d, dstOf ops i = some d → dstOf ops j = some d → j = i
  back : ∀ (i : Nat) (o : Oper), ops[i]? = some o → ∀ e ∈ o.after, Region.binds .any e = true → e.on < i
  looks : ∀ (i : Nat) (o : Oper), ops[i]? = some o → ∀ j d, dstOf ops j = some d → d ∈ o.looksAt ops → (∃ e ∈ o.after, Region.binds .any e = true ∧ e.on = j) ∨ L i j = true

set_option maxRecDepth 100000 in
theorem dstOf_lt {j : Nat} {d : Tmp} (h : dstOf ops j = some d) : j < ops.size := by
  unfold dstOf at h
  cases ho : ops[j]? with
  | none => simp [ho] at h
  | some o => exact (Array.getElem?_eq_some_iff.1 ho).1
set_option maxRecDepth 100000 in
theorem dstOf_of {j : Nat} {o : Oper} (h : ops[j]? = some o) : dstOf ops j = o.dst := by simp [dstOf, h]
set_option maxRecDepth 100000 in
theorem dstOf_some {j : Nat} {d : Tmp} (h : dstOf ops j = some d) : ∃ o, ops[j]? = some o ∧ o.dst = some d := by
  unfold dstOf at h
  cases ho : ops[j]? with
  | none => simp [ho] at h
  | some o => exact ⟨o, rfl, by simpa [ho] using h⟩

set_option maxRecDepth 100000 in
theorem Fair.of {L : Nat → Nat → Bool} {n : Nat} (h : regionL L ops n = true) : Fair L ops n := by
  have key : ∀ i o, ops[i]? = some o → (match o.op with | .select _ _ => false | _ => true) = true ∧
      (match o.dst with | none => true | some d => decide (d < n) && (List.range ops.size).all fun j => j == i || dstOf ops j != some d) = true ∧
      (o.after.all fun e => !Region.binds .any e || decide (e.on < i)) = true ∧
      ((List.range ops.size).all fun j => match dstOf ops j with | none => true | some d => !(o.looksAt ops).contains d || (Region.waitsFor .any ops i j || L i j)) = true := by
    intro i o ho
    have hi := (Array.getElem?_eq_some_iff.1 ho).1
    have := List.all_eq_true.1 h i (List.mem_range.2 hi)
    rw [ho] at this
    simp only [Bool.and_eq_true] at this
    exact this
  refine ⟨fun i o ho cs b hs => ?_, fun i d hd => ?_, fun i j d hi hj => ?_, fun i o ho e he hb => ?_, fun i o ho j d hd hl => ?_⟩
  · have := (key i o ho).1
    rw [hs] at this
    cases this
  · obtain ⟨o, ho, hd⟩ := dstOf_some hd
    have := (key i o ho).2.1
    simp only [hd, Bool.and_eq_true, decide_eq_true_eq] at this
    exact this.1
  · obtain ⟨o, ho, hd⟩ := dstOf_some hi
    have := (key i o ho).2.1
    simp only [hd, Bool.and_eq_true, decide_eq_true_eq] at this
    have := List.all_eq_true.1 this.2 j (List.mem_range.2 (dstOf_lt hj))
    simp only [Bool.or_eq_true, beq_iff_eq, bne_iff_ne, ne_eq] at this
    rcases this with h | h
    · exact h
    · exact absurd hj h
  · have := (key i o ho).2.2.1
    rw [Array.all_eq_true_iff_forall_mem] at this
    have := this e he
    rw [hb] at this
    simpa using this
  · have := (key i o ho).2.2.2
    have := List.all_eq_true.1 this j (List.mem_range.2 (dstOf_lt hd))
    rw [hd] at this
    simp only [Bool.or_eq_true, Bool.not_eq_true'] at this
    rcases this with h | h | h
    · have : (o.looksAt ops).contains d = true := List.contains_iff_mem.2 hl
      rw [h] at this
      cases this
    rotate_left
    · exact .inr h
    · refine .inl ?_
      obtain ⟨oj, hoj, e, he, hb, hon⟩ := Region.waitsFor_spec h
      obtain rfl : o = oj := Option.some.inj (ho.symm.trans hoj)
      exact ⟨e, he, hb, hon⟩

set_option maxRecDepth 100000 in
theorem Slots.start (V : Nat → Value) (a0 : Act) : Slots ops V a0 (fun _ => false) a0 := ⟨rfl, rfl, (fun _ _ _ h => by cases h), fun _ _ => rfl⟩

set_option maxRecDepth 100000 in
theorem Slots.put {L : Nat → Nat → Bool} {n : Nat} (hf : Fair L ops n) {V V' : Nat → Value} {a0 a : Act} {l l' : Nat → Bool} (h : Slots ops V a0 l a) (hn : a0.tmps.size = n) (i : Nat) (hl' : ∀ j, l' j = (j == i || l j)) (hi : l i = false) (hV : ∀ j, l j = true → V' j = V j) :
    Slots ops V' a0 l' (a.put (dstOf ops i) (V' i)) := by
  cases hd : dstOf ops i with
  | none =>
    refine ⟨h.defers, h.size, fun j d hj hl => ?_, fun t ht => h.old t fun j hj => ?_⟩
    · have hne : j ≠ i := by rintro rfl; rw [hd] at hj; cases hj
      have : l j = true := by rw [hl'] at hl; simpa [hne] using hl
      rw [hV j this]
      exact h.set j d hj this
    · have := ht j hj
      rw [hl'] at this
      simp at this
      exact this.2
  | some d =>
    have hlt : d < a.tmps.size := by rw [h.size, hn]; exact hf.lt i d hd
    refine ⟨h.defers, by simpa [Act.put] using h.size, fun j d' hj hl => ?_, fun t ht => ?_⟩
    · by_cases hji : j = i
      · subst hji
        obtain rfl : d = d' := Option.some.inj (hd.symm.trans hj)
        simp [Act.put, hlt]
      · have hne : d ≠ d' := by rintro rfl; exact hji (hf.one i j d hd hj)
        have : l j = true := by rw [hl'] at hl; simpa [hji] using hl
        simp only [Act.put, Array.getElem?_setIfInBounds_ne hne]
        rw [hV j this]
        exact h.set j d' hj this
    · have hne : d ≠ t := by rintro rfl; have := ht i hd; rw [hl'] at this; simp at this
      simp only [Act.put, Array.getElem?_setIfInBounds_ne hne]
      refine h.old t fun j hj => ?_
      have := ht j hj
      rw [hl'] at this
      simp at this
      exact this.2

set_option maxRecDepth 100000 in
theorem Slots.putTo {L : Nat → Nat → Bool} {n : Nat} (hf : Fair L ops n) (V : Nat → Value) (a0 : Act) (hn : a0.tmps.size = n) : ∀ k, Slots ops V a0 (fun j => decide (j < k)) (putTo ops V a0 k)
  | 0 => by
    have e : (fun j => decide (j < 0)) = fun _ => false := funext fun j => by simp
    rw [e]
    exact Slots.start V a0
  | k + 1 => Slots.put hf (Slots.putTo hf V a0 hn k) hn k (fun j => by rw [Bool.eq_iff_iff]; simp; omega) (by simp) (fun _ _ => rfl)

set_option maxRecDepth 100000 in
theorem Slots.same {V : Nat → Value} {a0 a b : Act} {l l' : Nat → Bool} (h : Slots ops V a0 l a) (h' : Slots ops V a0 l' b) (hl : ∀ j, j < ops.size → l j = true) (hl' : ∀ j, j < ops.size → l' j = true) : a = b := by
  have ht : a.tmps = b.tmps := by
    apply Array.ext_getElem?
    intro t
    by_cases e : ∃ j, dstOf ops j = some t
    · obtain ⟨j, hj⟩ := e
      rw [h.set j t hj (hl j (dstOf_lt hj)), h'.set j t hj (hl' j (dstOf_lt hj))]
    · rw [h.old t fun j hj => absurd ⟨j, hj⟩ e, h'.old t fun j hj => absurd ⟨j, hj⟩ e]
  have hd : a.defers = b.defers := h.defers.trans h'.defers.symm
  cases a; cases b; simp_all

set_option maxRecDepth 100000 in
/-- What an operation looks at it finds as it lies behind the whole region. -/
theorem Slots.looks {L : Nat → Nat → Bool} {n : Nat} (hf : Fair L ops n) {V : Nat → Value} {a0 a b : Act} {l : Nat → Bool} (h : Slots ops V a0 l a) (h' : Slots ops V a0 (fun j => decide (j < ops.size)) b) {i : Nat} {o : Oper} (ho : ops[i]? = some o)
    (hl : ∀ e ∈ o.after, Region.binds .any e = true → l e.on = true) (hL : ∀ j d, L i j = true → dstOf ops j = some d → l j = false ∧ a0.tmps[d]? = some (V j)) (d : Tmp) (hd : d ∈ o.looksAt ops) : a.tmps[d]? = b.tmps[d]? := by
  by_cases e : ∃ j, dstOf ops j = some d
  · obtain ⟨j, hj⟩ := e
    rcases hf.looks i o ho j d hj hd with ⟨e, he, hb, rfl⟩ | hlj
    · rw [h.set _ d hj (hl e he hb), h'.set _ d hj (by simpa using dstOf_lt hj)]
    · obtain ⟨h1, h2⟩ := hL j d hlj hj
      rw [h.old d (fun k hk => by rw [hf.one j k d hj hk]; exact h1), h'.set _ d hj (by simpa using dstOf_lt hj)]
      exact h2
  · rw [h.old d fun j hj => absurd ⟨j, hj⟩ e, h'.old d fun j hj => absurd ⟨j, hj⟩ e]

set_option maxRecDepth 100000 in
theorem Slots.exec {L : Nat → Nat → Bool} {n : Nat} (hf : Fair L ops n) {V : Nat → Value} {a0 a b : Act} {l : Nat → Bool} (h : Slots ops V a0 l a) (h' : Slots ops V a0 (fun j => decide (j < ops.size)) b) {i : Nat} {o : Oper} (ho : ops[i]? = some o)
    (hl : ∀ e ∈ o.after, Region.binds .any e = true → l e.on = true) (hL : ∀ j d, L i j = true → dstOf ops j = some d → l j = false ∧ a0.tmps[d]? = some (V j)) : execOp a.eval o = execOp b.eval o :=
  execOp_congr o (hf.sel i o ho) fun x hx => by
    cases x with
    | tmp t =>
      have := h.looks hf h' ho hl hL t (List.mem_append_left _ (List.mem_filterMap.2 ⟨.tmp t, by simpa using hx, rfl⟩))
      simp [Act.eval, this]
    | const v => rfl
    | global g => rfl
    | func f => rfl

set_option maxRecDepth 100000 in
theorem Slots.wanted {L : Nat → Nat → Bool} {n : Nat} (hf : Fair L ops n) {V : Nat → Value} {a0 a b : Act} {l : Nat → Bool} (h : Slots ops V a0 l a) (h' : Slots ops V a0 (fun j => decide (j < ops.size)) b) {i : Nat} {o : Oper} (ho : ops[i]? = some o)
    (hl : ∀ e ∈ o.after, Region.binds .any e = true → l e.on = true) (hL : ∀ j d, L i j = true → dstOf ops j = some d → l j = false ∧ a0.tmps[d]? = some (V j)) : Region.wanted o (yielded ops a.tmps) = Region.wanted o (yielded ops b.tmps) := by
  unfold Region.wanted
  cases hg : o.guard with
  | none => rfl
  | some gw =>
    obtain ⟨g, want⟩ := gw
    have hy : yielded ops a.tmps g = yielded ops b.tmps g := by
      unfold yielded
      cases ht : (ops[g]?).bind (·.dst) with
      | none => rfl
      | some t =>
        have := h.looks hf h' ho hl hL t (by simp [Oper.looksAt, hg, ht])
        simp [this]
    simp only [hy]

set_option maxRecDepth 100000 in
theorem NoWay.letsOut {x : Prop} (h : LetsOut NoWay) : x := by obtain ⟨_, _, h⟩ := h; exact h.elim

set_option maxRecDepth 100000 in
/-- The step from the frame behind the whole region to the frame at hand. -/
theorem wp_carry {Q : Exit → Act → World → Prop} {o : Oper} {a b : Act} {w : World} {K : Act → World → Prop} (he : execOp a.eval o = execOp b.eval o)
    (h : o.wp P b w (fun a' w' => ∃ v, a' = b.put o.dst v ∧ K (a.put o.dst v) w' ) NoWay) (hinj : ∀ v u, b.put o.dst v = b.put o.dst u → a.put o.dst v = a.put o.dst u) : o.wp P a w K Q := by
  unfold Oper.wp at *
  rw [he]
  generalize (execOp b.eval o).run P w = r at *
  cases r with
  | ok n w' =>
    cases n <;> simp only [Oper.upon] at h ⊢
    case value v =>
      obtain ⟨u, hu, hk⟩ := h
      rw [hinj v u hu]; exact hk
    case skip =>
      obtain ⟨u, hu, hk⟩ := h
      rw [hinj undef u hu]; exact hk
    case defer d =>
      obtain ⟨u, hu, _⟩ := h
      have := congrArg Act.defers hu
      cases hd : o.dst <;> simp [Act.put, hd] at this
    case enter f args =>
      refine Calls.mono h fun e w'' hh => ?_
      cases e with
      | returned v =>
        obtain ⟨u, hu, hk⟩ := hh
        show K (a.put o.dst v) w''
        rw [hinj v u hu]; exact hk
      | panicked c => exact hh.elim
      | outgrown => exact NoWay.letsOut hh
    case row row args =>
      refine Rows.mono h fun v w'' hh => ?_
      obtain ⟨u, hu, hk⟩ := hh
      rw [hinj v u hu]; exact hk
  | halt x w' => cases x <;> simp only [Oper.upon] at h ⊢; exact h.elim

set_option maxRecDepth 100000 in
theorem put_inj {n : Nat} {a b : Act} {d : Option Tmp} (_ha : a.tmps.size = n) (hb : b.tmps.size = n) (hd : ∀ x, d = some x → x < n) (v u : Value) (h : b.put d v = b.put d u) : a.put d v = a.put d u := by
  cases d with
  | none => rfl
  | some x =>
    have hx := hd x rfl
    have := congrArg (fun c : Act => c.tmps[x]?) h
    simp [Act.put, hb, hx] at this
    rw [this]

set_option maxRecDepth 100000 in
theorem getD_set (listed : Array Bool) (i j : Nat) (hi : i < listed.size) : (listed.setIfInBounds i true).getD j false = (j == i || listed.getD j false) := by
  by_cases e : i = j
  · subst e; simp [hi]
  · have e' : ¬ j = i := fun h => e h.symm
    simp [Array.getElem?_setIfInBounds_ne e, e']

set_option maxRecDepth 100000 in
theorem all_listed {L : Nat → Nat → Bool} {n : Nat} (hf : Fair L ops n) {listed : Array Bool} (hs : listed.size = ops.size) (hr : Region.ready .any ops listed = []) : ∀ j, j < ops.size → listed.getD j false = true := by
  intro j
  induction j using Nat.strongRecOn with
  | _ j ih =>
    intro hj
    cases hl : listed.getD j false with
    | true => rfl
    | false =>
      obtain ⟨o, ho⟩ : ∃ o, ops[j]? = some o := ⟨_, Array.getElem?_eq_getElem hj⟩
      have : j ∈ Region.ready .any ops listed := mem_ready.2 ⟨getD_in (by omega) hl, o, ho, fun e he hb => by
        have hlt := hf.back j o ho e he hb
        exact ih e.on hlt (by omega)⟩
      rw [hr] at this
      cases this

/-- What has come up has come up behind what it waits for. -/
def ClosedL (ops : Array Oper) (l : Nat → Bool) : Prop := ∀ (i : Nat) (o : Oper), ops[i]? = some o → l i = true → ∀ e ∈ o.after, Region.binds .any e = true → l e.on = true
set_option maxRecDepth 100000 in
/-- The region, operation by operation. V: what each operation yields; R: the condition on the world; both may hang on a state that the operations choose (where new memory lies). -/
theorem wp_region_late {σ : Type} {id : Nat} {a0 : Act} {w : World} {Q : Exit → Act → World → Prop} (V : σ → Nat → Value) (R : σ → (Nat → Bool) → World → Prop) (aT : σ → Act)
    (hm : P.follows .mixedOrders = true) (L : Nat → Nat → Bool) (hB : regionL L ops a0.tmps.size = true) (hT : ∀ s, aT s = putTo ops (V s) a0 ops.size) (s0 : σ) (h0 : R s0 (fun _ => false) w.drew)
    (hcon : ∀ l, ClosedL ops l → ∀ i j, L i j = true → l j = true → l i = true) (hlate : ∀ s l wx, R s l wx → ∀ i j d, L i j = true → dstOf ops j = some d → l j = false → a0.tmps[d]? = some (V s j))
    (step : ∀ (i : Nat) (o : Oper), ops[i]? = some o → ∀ (s : σ) (l : Nat → Bool) (wx : World), R s l wx → l i = false → (∀ e ∈ o.after, Region.binds .any e = true → l e.on = true) →
      ∀ K : Act → World → Prop, (∀ (s' : σ) (w' : World), (∀ j, l j = true → V s' j = V s j) → R s' (fun j => j == i || l j) w' → K ((aT s).put o.dst (V s' i)) w') →
        if Region.wanted o (yielded ops (aT s).tmps) then o.wp P (aT s) wx K NoWay else K ((aT s).put o.dst undef) wx)
    (fin : ∀ (s : σ) (l : Nat → Bool) (wx : World), (∀ j, j < ops.size → l j = true) → R s l wx → Q .normal (aT s) wx) : (Code.region id ops true).wp P Q a0 w := by
  have hf := Fair.of hB
  refine wp_region_any hm ?_
  have main : ∀ (fuel : Nat) (listed : Array Bool) (a : Act) (wx : World) (s : σ), listed.size = ops.size → listed.toList.count false ≤ fuel → Slots ops (V s) a0 (fun j => listed.getD j false) a → ClosedL ops (fun j => listed.getD j false) → R s (fun j => listed.getD j false) wx →
      wpAny P .any ops Q fuel listed a wx := by
    intro fuel
    have done : ∀ (listed : Array Bool) (a : Act) (wx : World) (s : σ), listed.size = ops.size → Slots ops (V s) a0 (fun j => listed.getD j false) a → R s (fun j => listed.getD j false) wx → Region.ready .any ops listed = [] → Q .normal a wx := by
      intro listed a wx s hs hS hR hr
      have hl := all_listed hf hs hr
      have := hS.same (Slots.putTo hf (V s) a0 rfl ops.size) hl (fun j hj => by simpa using hj)
      rw [this, ← hT]
      exact fin s _ wx hl hR
    induction fuel with
    | zero =>
      intro listed a wx s hs hc hS hCl hR
      have hr : Region.ready .any ops listed = [] := by
        cases hr : Region.ready .any ops listed with
        | nil => rfl
        | cons i is =>
          have hi : i ∈ Region.ready .any ops listed := by rw [hr]; exact List.mem_cons_self
          obtain ⟨h1, o, ho, _⟩ := mem_ready.1 hi
          have hlt := (Array.getElem?_eq_some_iff.1 ho).1
          have : false ∈ listed.toList := by
            have hlt' : i < listed.size := by omega
            have h2 : listed[i] = false := by simpa [hlt'] using h1
            rw [← h2]
            exact List.mem_of_getElem (i := i) (h := by simpa using hlt') (by simp)
          have := List.count_pos_iff.2 this
          omega
      exact ⟨hr, done listed a wx s hs hS hR hr⟩
    | succ fuel ih =>
      intro listed a wx s hs hc hS hCl hR
      refine ⟨done listed a wx s hs hS hR, fun i hi => ?_⟩
      obtain ⟨h1, o, ho, hedge⟩ := mem_ready.1 hi
      have hlt := (Array.getElem?_eq_some_iff.1 ho).1
      have hlt' : i < listed.size := by omega
      have h1' := getD_both h1
      have hTs := Slots.putTo hf (V s) a0 rfl ops.size
      rw [← hT] at hTs
      have hd : ∀ x, o.dst = some x → x < a0.tmps.size := fun x hx => hf.lt i x ((dstOf_of ho).trans hx)
      have hcount : (listed.setIfInBounds i true).toList.count false ≤ fuel := by
        have h2 : listed[i] = false := by simpa [hlt'] using h1
        have : listed.toList.count false = (listed.setIfInBounds i true).toList.count false + 1 := by
          rw [Array.toList_setIfInBounds, List.count_set (by simpa using hlt')]
          have hp : 0 < listed.toList.count false := List.count_pos_iff.2 (by
            rw [← h2]
            exact List.mem_of_getElem (i := i) (h := by simpa using hlt') (by simp))
          rw [Array.count_toList] at hp
          simp [h2]
          omega
        omega
      have next : ∀ (s' : σ) (w' : World), (∀ j, listed.getD j false = true → V s' j = V s j) → R s' (fun j => j == i || listed.getD j false) w' →
          wpAny P .any ops Q fuel (listed.setIfInBounds i true) (a.put o.dst (V s' i)) w' := by
        intro s' w' hV hR'
        have e : (fun j => (listed.setIfInBounds i true).getD j false) = (fun j => j == i || listed.getD j false) := funext fun j => getD_set listed i j hlt'
        refine ih _ _ w' s' (by simpa using hs) hcount ?_ ?_ (by rw [e]; exact hR')
        rotate_left
        · rw [e]
          intro k ok hok hk e2 he2 hb2
          simp only [Bool.or_eq_true, beq_iff_eq] at hk ⊢
          rcases hk with rfl | hk
          · obtain rfl : o = ok := Option.some.inj (ho.symm.trans hok)
            exact .inr (hedge e2 he2 hb2)
          · exact .inr (hCl k ok hok hk e2 he2 hb2)
        have := Slots.put hf hS rfl i (fun j => getD_set listed i j hlt') h1' hV
        rw [dstOf_of ho] at this
        exact this
      have st := step i o ho s _ wx hR h1' (fun e he hb => hedge e he hb)
      have hL : ∀ j d, L i j = true → dstOf ops j = some d → listed.getD j false = false ∧ a0.tmps[d]? = some (V s j) := by
        intro j d hlj hdj
        have hj : listed.getD j false = false := by
          cases hx : listed.getD j false with
          | false => rfl
          | true => have := hcon _ hCl i j hlj hx; rw [h1'] at this; cases this
        exact ⟨hj, hlate s _ wx hR i j d hlj hdj hj⟩
      unfold wpOp
      simp only [ho]
      rw [Slots.wanted hf hS hTs ho (fun e he hb => hedge e he hb) hL]
      have hsz : (aT s).tmps.size = a0.tmps.size := hTs.size
      by_cases hw : Region.wanted o (yielded ops (aT s).tmps) = true
      · simp only [hw, if_true] at st ⊢
        refine .inl (wp_carry (Slots.exec hf hS hTs ho (fun e he hb => hedge e he hb) hL) (st _ ?_) (put_inj hS.size hsz hd))
        intro s' w' hV hR'
        exact ⟨V s' i, rfl, next s' w' hV hR'⟩
      · simp only [hw, if_false, Bool.false_eq_true] at st ⊢
        have := st (fun a' w' => ∃ v, a' = (aT s).put o.dst v ∧ wpAny P .any ops Q fuel (listed.setIfInBounds i true) (a.put o.dst v) w') (fun s' w' hV hR' => ⟨V s' i, rfl, next s' w' hV hR'⟩)
        obtain ⟨v, hv, hk⟩ := this
        rw [put_inj hS.size hsz hd undef v hv]
        exact hk
  refine main ops.size _ a0 _ s0 (by simp) (by simp) ?_ ?_ ?_
  rotate_left
  · have e : (fun j => (Array.replicate ops.size false).getD j false) = fun _ => false := funext fun j => getD_replicate_false _ _
    rw [e]
    intro k ok hok hk
    cases hk
  rotate_left
  · have e : (fun j => (Array.replicate ops.size false).getD j false) = fun _ => false := funext fun j => getD_replicate_false _ _
    rw [e]
    exact Slots.start _ _
  · have e : (fun j => (Array.replicate ops.size false).getD j false) = fun _ => false := funext fun j => getD_replicate_false _ _
    rw [e]
    exact h0
set_option maxRecDepth 100000 in
theorem wp_region_by {σ : Type} {id : Nat} {a0 : Act} {w : World} {Q : Exit → Act → World → Prop} (V : σ → Nat → Value) (R : σ → (Nat → Bool) → World → Prop) {aT : σ → Act}
    (hm : P.follows .mixedOrders = true) (hB : regionB ops a0.tmps.size = true) (hT : ∀ s, putTo ops (V s) a0 ops.size = aT s) (s0 : σ) (h0 : R s0 (fun _ => false) w.drew)
    (step : ∀ (i : Nat) (o : Oper), ops[i]? = some o → ∀ (s : σ) (l : Nat → Bool) (wx : World), R s l wx → l i = false → (∀ e ∈ o.after, Region.binds .any e = true → l e.on = true) →
      ∀ K : Act → World → Prop, (∀ (s' : σ) (w' : World), (∀ j, l j = true → V s' j = V s j) → R s' (fun j => j == i || l j) w' → K ((aT s).put o.dst (V s' i)) w') →
        if Region.wanted o (yielded ops (aT s).tmps) then o.wp P (aT s) wx K NoWay else K ((aT s).put o.dst undef) wx)
    (fin : ∀ (s : σ) (l : Nat → Bool) (wx : World), (∀ j, j < ops.size → l j = true) → R s l wx → Q .normal (aT s) wx) : (Code.region id ops true).wp P Q a0 w :=
  wp_region_late V R aT hm (fun _ _ => false) hB (fun s => (hT s).symm) s0 h0 (fun _ _ _ _ h => by cases h) (fun _ _ _ _ _ _ _ h => by cases h) step fin
set_option maxRecDepth 100000 in
/-- A whole row read out of memory, by an operation of such a region. -/
theorem region_load_row {o : Oper} {a : Act} {w : World} {K : Act → World → Prop} {Q : Exit → Act → World → Prop} (hw : Region.wanted o (yielded ops a.tmps) = true) (ty : TypeId) (x : Operand) (ho : o.op = .load ty x)
    (g : Nat) (hx : a.eval x = .pointer (some ⟨g, 0, none⟩)) (t : TypeId) (cs : Array Value) (fr : Nat × Nat) (d : TypeDesc) (hg : w.heap[g]? = some (.cells cs t fr))
    (hu : P.underlying ty = some d) (hd : (match d with | .struct _ | .array _ _ => true | _ => false) = true) (hi : (P.info? ty).map (·.size) = some cs.size)
    (h : K (a.put o.dst (.agg cs)) w) : if Region.wanted o (yielded ops a.tmps) then o.wp P a w K Q else K (a.put o.dst undef) w := by
  rw [if_pos hw]
  exact wp_load_row ty x ho g hx t cs fr d hg hu hd hi h
end
end Go.Proofs.YthkpaelpnofbgaaGreatDoor
/-
  A region that draws its order: what has come up holds all that it hangs on. Over any program's text.
-/
namespace Go.Proofs.YthkpaelpnofbgaaGreatDoor
open Go.RowKit
section
variable {P : Program} {ops : Array Oper}
set_option maxRecDepth 100000 in
theorem closed_none : ClosedL ops (fun _ => false) := fun _ _ _ h => by cases h
set_option maxRecDepth 100000 in
theorem closed_put {l : Nat → Bool} (h : ClosedL ops l) {i : Nat} {o : Oper} (ho : ops[i]? = some o) (he : ∀ e ∈ o.after, Region.binds .any e = true → l e.on = true) : ClosedL ops (fun j => j == i || l j) := by
  intro j o' hj hl e hm hb
  by_cases hji : j = i
  · subst hji
    rw [ho] at hj
    cases hj
    simp [he e hm hb]
  · have : l j = true := by simpa [hji] using hl
    simp [h j o' hj this e hm hb]
end
set_option maxRecDepth 100000 in
theorem wp_region_cl {P : Program} {ops : Array Oper} {σ : Type} {id : Nat} {a0 : Act} {w : World} {Q : Exit → Act → World → Prop} (V : σ → Nat → Value) (R : σ → (Nat → Bool) → World → Prop) {aT : σ → Act}
    (hm : P.follows .mixedOrders = true) (hB : regionB ops a0.tmps.size = true) (hT : ∀ s, putTo ops (V s) a0 ops.size = aT s) (s0 : σ) (h0 : R s0 (fun _ => false) w.drew)
    (step : ∀ (i : Nat) (o : Oper), ops[i]? = some o → ∀ (s : σ) (l : Nat → Bool) (wx : World), R s l wx → l i = false → (∀ e ∈ o.after, Region.binds .any e = true → l e.on = true) → ClosedL ops l →
      ∀ K : Act → World → Prop, (∀ (s' : σ) (w' : World), (∀ j, l j = true → V s' j = V s j) → R s' (fun j => j == i || l j) w' → K ((aT s).put o.dst (V s' i)) w') →
        if Region.wanted o (yielded ops (aT s).tmps) then o.wp P (aT s) wx K NoWay else K ((aT s).put o.dst undef) wx)
    (fin : ∀ (s : σ) (l : Nat → Bool) (wx : World), (∀ j, j < ops.size → l j = true) → R s l wx → Q .normal (aT s) wx) : (Code.region id ops true).wp P Q a0 w :=
  wp_region_by V (fun s l wx => R s l wx ∧ ClosedL ops l) hm hB hT s0 ⟨h0, closed_none⟩
    (fun i o ho s l wx hR hl he K hK => step i o ho s l wx hR.1 hl he hR.2 K (fun s' w' hV hR' => hK s' w' hV ⟨hR', closed_put hR.2 ho he⟩))
    (fun s l wx hall hR => fin s l wx hall hR.1)
end Go.Proofs.YthkpaelpnofbgaaGreatDoor
/-
  Trees of not too many kids; a node out of memory. Over the program's own text.
-/
namespace Go.Proofs.YthkpaelpnofbgaaGreatDoor
open Go.RowKit

section
variable {P : Program}
set_option maxRecDepth 100000 in
theorem run_load_cells (w : World) (g o : Nat) (ty : TypeId) (cs : Array Value) (d : TypeDesc) (hp : ∀ (j : Nat) (v : Value), cs.toList[j]? = some v → w.cell? ⟨g, o + j, none⟩ = some v)
    (hu : P.underlying ty = some d) (hd : (match d with | .struct _ | .array _ _ => true | _ => false) = true) (hi : (P.info? ty).map (·.size) = some cs.size) :
    (loadVar ty ⟨g, o, none⟩).run P w = .ok (.agg cs) w := by
  have hl : (loadCells ⟨g, o, none⟩ cs.toList.length).run P w = .ok cs.toList.toArray w :=
    run_loadCells_list (P := P) w ⟨g, o, none⟩ cs.toList (fun j v hv => by
      rw [Addr.add_lit]
      exact hp j v hv)
  cases hq : P.info? ty with
  | none => simp [hq] at hi
  | some i =>
    have hs : i.size = cs.size := by simpa [hq] using hi
    have hagg : (isAgg ty).run P w = .ok true w := by
      unfold isAgg
      rw [Sem.run_bind, run_underlying hu w]
      cases d <;> simp_all
    simp only [Array.length_toList, Array.toArray_toList] at hl
    simp [loadVar, Sem.run_bind, hagg, sizeOf, typeInfo, hq, hs, hl]
set_option maxRecDepth 100000 in
theorem wp_load_cells {o : Oper} {a : Act} {w : World} {K : Act → World → Prop} {Q : Exit → Act → World → Prop} (ty : TypeId) (x : Operand) (ho : o.op = .load ty x)
    (g f : Nat) (hx : a.eval x = .pointer (some ⟨g, f, none⟩)) (cs : Array Value) (d : TypeDesc) (hp : ∀ (j : Nat) (v : Value), cs.toList[j]? = some v → w.cell? ⟨g, f + j, none⟩ = some v)
    (hu : P.underlying ty = some d) (hd : (match d with | .struct _ | .array _ _ => true | _ => false) = true) (hi : (P.info? ty).map (·.size) = some cs.size)
    (h : K (a.put o.dst (.agg cs)) w) : o.wp P a w K Q := by
  unfold Oper.wp execOp
  simp only [ho, hx, Instr.loadAt, Instr.sureAddr, Sem.run_bind, Sem.run_pure, Result.andThen_ok, run_load_cells w g f ty cs d hp hu hd hi]
  exact h
end
/-- How many terms and kids a tree has is within reach. -/
inductive FewN : Nd → Prop
  | mk {k f : Int} {ts : List Tk} {ks : List Nd} (ht : ts.length ≤ 1000000) (hk : ks.length ≤ 1000000) (h : ∀ x ∈ ks, FewN x) : FewN (.mk k f ts ks)
set_option maxRecDepth 100000 in
theorem RdN.slices {w : World} {S : Nat → Prop} {x : Nd} {kd fd : Int} {tv kv : Value} (h : RdN w S x (kd, fd, tv, kv)) : ∃ ta tn tc ka kn kc, tv = .slice ta tn tc ∧ kv = .slice ka kn kc := by
  cases h
  exact ⟨_, _, _, _, _, _, rfl, rfl⟩
set_option maxRecDepth 100000 in
/-- A sign that turns, and what it turns. -/
theorem turned {w : World} {S S' : Nat → Prop} {x : Nd} {r : Rn} {g : Nat} (h : RdN w S x r) (hg : w.heap[g]? = some (.cells (rnC r).toArray 25 (0, 0))) (hS : ∀ b, S b → S' b) (hg2 : S' g) : RdN w S' (.mk 4 0 [] [x]) (4, 0, .slice none 0 0, .slice (some ⟨g, 0, none⟩) 1 1) := by
  refine RdN.mk (w := w) (S := S') (k := 4) (f := 0) (ts := []) (ks := [x]) (ta := none) (tc := 0) (kc := 1) (rs := [r]) (by decide) (by decide) (fun j y hj => by simp at hj) (Nat.le_refl _) (by decide) (fun a ha _ => by cases ha) (fun j s hj => ?_) (Nat.le_refl _) (by decide) (fun a ha _ => by injection ha with ha; subst ha; exact hg2) rfl (fun j y s h1 h2 => ?_)
  · cases j with
    | succ j => simp at hj
    | zero =>
      simp at hj
      subst hj
      refine ⟨g, 0, rfl, fun i v hv => ?_⟩
      rw [cell_at hg]
      simpa using hv
  · cases j with
    | succ j => simp at h1
    | zero => simp at h1 h2; subst h1 h2; exact h.mono fun b _ hb => hS b hb
set_option maxRecDepth 100000 in
theorem Nd.ind2 {P : Nd → Prop} (h : ∀ k f ts ks, (∀ x ∈ ks, P x) → P (.mk k f ts ks)) : ∀ t, P t
  | .mk k f ts ks => h k f ts ks fun x _ => Nd.ind2 h x
termination_by t => SizeOf.sizeOf t
decreasing_by
  have := List.sizeOf_lt_of_mem (by assumption : x ∈ ks)
  simp; omega
end Go.Proofs.YthkpaelpnofbgaaGreatDoor
/-
  A tree that isn't too great: what the reference of layer 17 says of it. Over the program's own text.
-/
namespace Go.Proofs.YthkpaelpnofbgaaGreatDoor
open Go.RowKit

set_option maxRecDepth 100000 in
theorem lowT {a b c : World} (h : Below a.heap.size a b) (k : Below b.heap.size b c) : Below a.heap.size a c := h.trans (k.mono h.size)
set_option maxRecDepth 100000 in
theorem blkT {p : Nat} {v : Obj} {w w' : World} (h : w.heap[p]? = some v) (hb : Below w.heap.size w w') : w'.heap[p]? = some v := (hb.block _ (lt_of_heap h)).trans h
set_option maxRecDepth 100000 in
theorem hb_cell {w w' : World} {a : Addr} {v : Value} (hb : Below w.heap.size w w') (h : w.cell? a = some v) : w'.cell? a = some v := below_cell h hb
/-- What a machine has room for. -/
inductive ReachN : Nd → Prop
  | mk {k f : Int} {ts : List Tk} {ks : List Nd} (ht : ts.length ≤ 140737488351232) (hs : ∀ t ∈ ts, t.2.1.size ≤ 140737488351232) (hk : ks.length ≤ 140737488351232) (h : ∀ x ∈ ks, ReachN x) : ReachN (.mk k f ts ks)
set_option maxRecDepth 100000 in
set_option maxHeartbeats 8000000 in
theorem weight_any : ∀ (x : Nd), ReachN x → ∀ (w : World) (S : Nat → Prop) (r : Rn) (d s : Int), RdN w S x r → 0 ≤ d → d ≤ 400 → 0 ≤ s → s < 3000 →
    Calls Tryz.prog 12 #[rnV r, .int .i64 d, .int .i64 s] w fun e w' => ∃ v : Int, e = .returned (.int .i64 v) ∧ v ≤ 3000 ∧ s < v ∧ (v < 3000 → FewN x) ∧ Below w.heap.size w w' := by
  refine Nd.ind2 fun k f ts ks ih hre w S r d s h hd0 hd1 hs0 hs1 => ?_
  cases h with
  | @mk _ _ _ _ ta ka tc kc rs hf0 hf1 ht htl htm htb hk hkl hkm hkb hl hr =>
  cases hre with
  | mk hrt hrs hrk hrx =>
  obtain ⟨m, hm⟩ : ∃ m, m = ks.length := ⟨_, rfl⟩
  obtain ⟨n, hn⟩ : ∃ n, n = ts.length := ⟨_, rfl⟩
  have HM := Lib.hid (And.intro hm hn)
  have HIh := Lib.hid (fun (i : Nat) x r (h1 : ks[i]? = some x) (h2 : rs[i]? = some r) (wx : World) (hb : Below w.heap.size w wx) => ih x (List.mem_of_getElem? h1) (hrx x (List.mem_of_getElem? h1)) wx S r (d - 1))
  have HK := Lib.hid (And.intro hk (And.intro hl (And.intro hr (And.intro ht hrs))))
  rw [← hm] at hrk
  rw [← hn] at hrt
  rw [← hm, ← hn, show rnV (k, f, .slice ta n tc, .slice ka m kc) = .agg #[.int .i64 k, .int .u8 f, .slice ta n tc, .slice ka m kc] from rfl]
  obtain ⟨X, hX⟩ : ∃ X : Obj, X = .cells #[.int .i64 k, .int .u8 f, .slice ta n tc, .slice ka m kc] 25 := ⟨_, rfl⟩
  have hx1 : (w.alloc X).heap[w.heap.size]? = some (.cells #[.int .i64 k, .int .u8 f, .slice ta n tc, .slice ka m kc] 25 (0, 0)) := by rw [heap_alloc_new w X, hX]
  have HB1 := Lib.hid (And.intro (below_one (w := w) (A := X)) hx1)
  have c2 := cell_at hx1 2
  have c3 := cell_at hx1 3
  simp only [List.getElem?_toArray, List.getElem?_cons_zero, List.getElem?_cons_succ] at c2 c3
  clear hm hn ih hf0 hf1 ht htl htm htb hk hkl hkm hkb hl hr hrs hrx hx1
  go_enter Tryz.func12, Tryz.ntmps12
  go_upto_region 1 with fail
  rw [← hX]
  clear hX
  generalize w.alloc X = w1 at HB1 c2 c3 ⊢
  by_cases hd : d = 0
  · subst hd
    go_wp2_with fail
    go_ret
    exact ⟨3000, rfl, by omega, hs1, fun h => absurd h (by omega), HB1.out.1⟩
  have hdb : (d == 0) = false := beq_eq_false_iff_ne.2 hd
  by_cases hs2 : 3000 ≤ s + (1 + (n : Int))
  · go_wp2_with fail
    go_ret
    exact ⟨3000, rfl, by omega, hs1, fun h => absurd h (by omega), HB1.out.1⟩
  have hs3 : s + (1 + (n : Int)) < 3000 := by omega
  go_wp2_with fail
  clear c2 c3
  go_loopg [2, 24] n (fun g s2 s24 wr => ∃ (i : Nat) (q : Int), i + g = n ∧ s24 = .int .i64 (i : Int) ∧ s2 = .int .i64 q ∧ s + (1 + (n : Int)) ≤ q ∧ q < 3000 ∧ wr = w1)
  case atStart => exact ⟨0, _, by omega, rfl, rfl, by omega, by omega, rfl⟩
  case round =>
    obtain ⟨i, q, hig, rfl, rfl, hq0, hq1, rfl⟩ := hrel
    have c2 := cell_at HB1.out.2 2
    have c3 := cell_at HB1.out.2 3
    simp only [List.getElem?_toArray, List.getElem?_cons_zero, List.getElem?_cons_succ] at c2 c3
    cases gk with
    | succ g =>
      have hlt : i < n := by omega
      obtain ⟨t, ht⟩ : ∃ t, ts[i]? = some t := ⟨_, List.getElem?_eq_getElem (by rw [← HM.out.2]; exact hlt)⟩
      obtain ⟨gt, ot, rfl, _, k1, _⟩ := HK.out.2.2.2.1 i t ht
      have hsz := HK.out.2.2.2.2 t (List.mem_of_getElem? ht)
      have d1 := hb_cell HB1.out.1 k1
      have hlti : (i : Int) < (n : Int) := by omega
      obtain ⟨str, hstr⟩ : ∃ str, str = t.2.1 := ⟨_, rfl⟩
      rw [← hstr] at d1 hsz
      clear k1 ht hstr
      by_cases hbig : 3000 ≤ q + (str.size : Int)
      · go_wp2_with fail
        go_ret
        exact ⟨3000, rfl, by omega, hs1, fun h => absurd h (by omega), HB1.out.1⟩
      · go_wp2_with fail
        go_roundg g
        case measure => omega
        case rel => exact ⟨i + 1, q + (str.size : Int), by omega, by go_num, rfl, by omega, by omega, rfl⟩
    | zero =>
      have hin : n = i := by omega
      subst hin
      go_wp2_with fail
      clear c2 c3
      go_loopg [2, 42] m (fun g s2 s42 wy => ∃ (j : Nat) (q2 : Int), j + g = m ∧ s42 = .int .i64 (j : Int) ∧ s2 = .int .i64 q2 ∧ s + (1 + (n : Int)) + (j : Int) ≤ q2 ∧ q2 < 3000 ∧ Hid (∀ (a : Nat) (x : Nd), a < j → ks[a]? = some x → FewN x) ∧ Hid (Below wr.heap.size wr wy))
      case atStart => exact ⟨0, q, by omega, rfl, rfl, by omega, by omega, Lib.hid fun a x ha => absurd ha (by omega), Lib.hid (Below.refl _ _)⟩
      case round =>
        obtain ⟨j, q2, hjg, rfl, rfl, hp0, hp1, HF, HB⟩ := hrel
        cases gk with
        | zero =>
          have HFin := Lib.hid (show FewN (.mk k f ts ks) from .mk (by rw [← HM.out.2]; omega) (by rw [← HM.out.1]; omega) (fun x hx => by
            obtain ⟨a, ha, rfl⟩ := List.getElem_of_mem hx
            exact HF.out a _ (by have := HM.out.1; omega) (List.getElem?_eq_getElem ha)))
          go_wp2_with fail
          go_ret
          exact ⟨q2, rfl, by omega, by omega, fun _ => HFin.out, lowT HB1.out.1 HB.out⟩
        | succ g =>
          have hlt : j < m := by omega
          obtain ⟨x, hx⟩ : ∃ x, ks[j]? = some x := ⟨_, List.getElem?_eq_getElem (by rw [← HM.out.1]; exact hlt)⟩
          obtain ⟨rj, hrj⟩ : ∃ rj, rs[j]? = some rj := ⟨_, List.getElem?_eq_getElem (by rw [HK.out.2.1, ← HM.out.1]; exact hlt)⟩
          obtain ⟨gj, oj, rfl, hcj⟩ := HK.out.1 j rj hrj
          have hrd := HK.out.2.2.1 j x rj hx hrj
          have hbw := lowT HB1.out.1 HB.out
          have HI := Lib.hid (show ∀ q : Int, 0 ≤ q → q < 3000 → Calls Tryz.prog 12 #[rnV rj, .int .i64 (d - 1), .int .i64 q] wr fun e w' => ∃ v : Int, e = .returned (.int .i64 v) ∧ v ≤ 3000 ∧ q < v ∧ (v < 3000 → FewN x) ∧ Below wr.heap.size wr w' from fun q h1 h2 => HIh.out j x rj hx hrj wr hbw q (hrd.after hbw) (by omega) (by omega) h1 h2)
          obtain ⟨k5, f5, tv5, kv5⟩ := rj
          obtain ⟨ta5, tn5, tc5, ka5, kn5, kc5, rfl, rfl⟩ := hrd.slices
          rw [show rnV (k5, f5, .slice ta5 tn5 tc5, .slice ka5 kn5 kc5) = .agg #[.int .i64 k5, .int .u8 f5, .slice ta5 tn5 tc5, .slice ka5 kn5 kc5] from rfl] at HI
          have e0 := hb_cell hbw (hcj 0 _ rfl)
          have e1 := hb_cell hbw (hcj 1 _ rfl)
          have e2 := hb_cell hbw (hcj 2 _ rfl)
          have e3 := hb_cell hbw (hcj 3 _ rfl)
          rw [Nat.add_zero] at e0
          have c3 := cell_at (blkT HB1.out.2 HB.out) 3
          simp only [List.getElem?_toArray, List.getElem?_cons_zero, List.getElem?_cons_succ] at c3
          have hltj : (j : Int) < (m : Int) := by omega
          have HX := Lib.hid hx
          clear hx hrj hcj hrd hbw
          go_wp2_with fail
          refine (HI.out q2 (by omega) hp1).mono ?_
          rintro e w6 ⟨v, rfl, hv0, hv1, hv2, hb6⟩
          have HV := Lib.hid (show v < 3000 → ∀ (a : Nat) (y : Nd), a < j + 1 → ks[a]? = some y → FewN y from fun h a y ha hy => by
            by_cases e : a = j
            · subst e; rw [HX.out] at hy; injection hy with hy; subst hy; exact hv2 h
            · exact HF.out a y (by omega) hy)
          have HB6 := Lib.hid (lowT HB.out hb6)
          clear hv2 hb6 c3 e0 e1 e2 e3
          by_cases hbig : 3000 ≤ v
          · go_wp2_with fail
            go_ret
            exact ⟨3000, rfl, by omega, hs1, fun h => absurd h (by omega), lowT HB1.out.1 HB6.out⟩
          · have HVn := Lib.hid (HV.out (by omega))
            go_wp2_with fail
            go_roundg g
            case measure => omega
            case rel => exact ⟨j + 1, v, by omega, by go_num, rfl, by omega, by omega, HVn, HB6⟩
/-- It answers yes or no; no only of a tree that can be gone through. -/
structure GreatDone (x : Nd) (w : World) (e : Ending) (w' : World) : Prop where
  has : ∃ b : Bool, e = .returned (.bool b) ∧ (b = false → FewN x)
  low : Below w.heap.size w w'
set_option maxRecDepth 100000 in
set_option maxHeartbeats 4000000 in
theorem great_any (w : World) (S : Nat → Prop) (x : Nd) (r : Rn) (h : RdN w S x r) (hre : ReachN x) :
    Calls Tryz.prog 5 #[rnV r] w fun e w' => GreatDone x w e w' := by
  have HW := Lib.hid (fun wx (hb : Below w.heap.size w wx) => weight_any x hre wx S r 400 0 (h.after hb) (by decide) (by decide) (by decide) (by decide))
  obtain ⟨k, f, tv, kv⟩ := r
  obtain ⟨ta, tn, tc, ka, kn, kc, rfl, rfl⟩ := h.slices
  clear h
  rw [show rnV (k, f, .slice ta tn tc, .slice ka kn kc) = .agg #[.int .i64 k, .int .u8 f, .slice ta tn tc, .slice ka kn kc] from rfl] at HW ⊢
  go_enter Tryz.func5, Tryz.ntmps5
  go_wp2_with fail
  refine (HW.out _ below_one).mono ?_
  rintro e w1 ⟨v, rfl, _, _, hv, hb⟩
  have HV := Lib.hid (And.intro hv (lowT below_one hb))
  clear hv hb
  go_wp2_with fail
  go_ret
  exact ⟨⟨decide (3000 ≤ v), rfl, fun h => HV.out.1 (by simpa using h)⟩, HV.out.2⟩
end Go.Proofs.YthkpaelpnofbgaaGreatDoor
/-
  A tree's weight, just as the reference of layer 17 reckons it where it isn't too great. Over the program's own text.
-/
namespace Go.Proofs.YthkpaelpnofbgaaGreatDoor
open Go.RowKit

def sumT : List Tk → Nat
  | [] => 0
  | t :: ts => t.2.1.size + sumT ts
mutual
def wtN : Nd → Nat
  | .mk _ _ ts ks => 1 + ts.length + sumT ts + wtK ks
def wtK : List Nd → Nat
  | [] => 0
  | x :: l => wtN x + wtK l
end
set_option maxRecDepth 100000 in
theorem sumT_take : ∀ (ts : List Tk) (i : Nat) (t : Tk), ts[i]? = some t → sumT (ts.take (i + 1)) = sumT (ts.take i) + t.2.1.size
  | [], i, t, h => by simp at h
  | x :: ts, 0, t, h => by simp at h; subst h; simp [sumT]
  | x :: ts, i + 1, t, h => by
    have := sumT_take ts i t (by simpa using h)
    rw [List.take_succ_cons, List.take_succ_cons, sumT, sumT, this]
    omega
set_option maxRecDepth 100000 in
theorem wtK_take : ∀ (ks : List Nd) (i : Nat) (x : Nd), ks[i]? = some x → wtK (ks.take (i + 1)) = wtK (ks.take i) + wtN x
  | [], i, x, h => by simp at h
  | y :: ks, 0, x, h => by simp at h; subst h; simp [wtK]
  | y :: ks, i + 1, x, h => by
    have := wtK_take ks i x (by simpa using h)
    rw [List.take_succ_cons, List.take_succ_cons, wtK, wtK, this]
    omega
set_option maxRecDepth 100000 in
set_option maxHeartbeats 8000000 in
theorem weight2_any : ∀ (x : Nd), ReachN x → ∀ (w : World) (S : Nat → Prop) (r : Rn) (d s : Int), RdN w S x r → 0 ≤ d → d ≤ 400 → 0 ≤ s → s < 3000 →
    Calls Tryz.prog 12 #[rnV r, .int .i64 d, .int .i64 s] w fun e w' => ∃ v : Int, e = .returned (.int .i64 v) ∧ v ≤ 3000 ∧ s < v ∧ (v < 3000 → FewN x ∧ v = s + (wtN x : Int)) ∧ Below w.heap.size w w' := by
  refine Nd.ind2 fun k f ts ks ih hre w S r d s h hd0 hd1 hs0 hs1 => ?_
  cases h with
  | @mk _ _ _ _ ta ka tc kc rs hf0 hf1 ht htl htm htb hk hkl hkm hkb hl hr =>
  cases hre with
  | mk hrt hrs hrk hrx =>
  obtain ⟨m, hm⟩ : ∃ m, m = ks.length := ⟨_, rfl⟩
  obtain ⟨n, hn⟩ : ∃ n, n = ts.length := ⟨_, rfl⟩
  have HM := Lib.hid (And.intro hm hn)
  have HIh := Lib.hid (fun (i : Nat) x r (h1 : ks[i]? = some x) (h2 : rs[i]? = some r) (wx : World) (hb : Below w.heap.size w wx) => ih x (List.mem_of_getElem? h1) (hrx x (List.mem_of_getElem? h1)) wx S r (d - 1))
  have HK := Lib.hid (And.intro hk (And.intro hl (And.intro hr (And.intro ht hrs))))
  rw [← hm] at hrk
  rw [← hn] at hrt
  rw [← hm, ← hn, show rnV (k, f, .slice ta n tc, .slice ka m kc) = .agg #[.int .i64 k, .int .u8 f, .slice ta n tc, .slice ka m kc] from rfl]
  obtain ⟨X, hX⟩ : ∃ X : Obj, X = .cells #[.int .i64 k, .int .u8 f, .slice ta n tc, .slice ka m kc] 25 := ⟨_, rfl⟩
  have hx1 : (w.alloc X).heap[w.heap.size]? = some (.cells #[.int .i64 k, .int .u8 f, .slice ta n tc, .slice ka m kc] 25 (0, 0)) := by rw [heap_alloc_new w X, hX]
  have HB1 := Lib.hid (And.intro (below_one (w := w) (A := X)) hx1)
  have c2 := cell_at hx1 2
  have c3 := cell_at hx1 3
  simp only [List.getElem?_toArray, List.getElem?_cons_zero, List.getElem?_cons_succ] at c2 c3
  clear hm hn ih hf0 hf1 ht htl htm htb hk hkl hkm hkb hl hr hrs hrx hx1
  go_enter Tryz.func12, Tryz.ntmps12
  go_upto_region 1 with fail
  rw [← hX]
  clear hX
  generalize w.alloc X = w1 at HB1 c2 c3 ⊢
  by_cases hd : d = 0
  · subst hd
    go_wp2_with fail
    go_ret
    exact ⟨3000, rfl, by omega, hs1, fun h => absurd h (by omega), HB1.out.1⟩
  have hdb : (d == 0) = false := beq_eq_false_iff_ne.2 hd
  by_cases hs2 : 3000 ≤ s + (1 + (n : Int))
  · go_wp2_with fail
    go_ret
    exact ⟨3000, rfl, by omega, hs1, fun h => absurd h (by omega), HB1.out.1⟩
  have hs3 : s + (1 + (n : Int)) < 3000 := by omega
  go_wp2_with fail
  clear c2 c3
  go_loopg [2, 24] n (fun g s2 s24 wr => ∃ (i : Nat) (q : Int), i + g = n ∧ s24 = .int .i64 (i : Int) ∧ s2 = .int .i64 q ∧ s + (1 + (n : Int)) ≤ q ∧ q < 3000 ∧ Hid (q = s + (1 + (n : Int)) + (sumT (ts.take i) : Int)) ∧ wr = w1)
  case atStart => exact ⟨0, _, by omega, rfl, rfl, by omega, by omega, Lib.hid (by simp [sumT]), rfl⟩
  case round =>
    obtain ⟨i, q, hig, rfl, rfl, hq0, hq1, HQ, rfl⟩ := hrel
    have c2 := cell_at HB1.out.2 2
    have c3 := cell_at HB1.out.2 3
    simp only [List.getElem?_toArray, List.getElem?_cons_zero, List.getElem?_cons_succ] at c2 c3
    cases gk with
    | succ g =>
      have hlt : i < n := by omega
      obtain ⟨t, ht⟩ : ∃ t, ts[i]? = some t := ⟨_, List.getElem?_eq_getElem (by rw [← HM.out.2]; exact hlt)⟩
      obtain ⟨gt, ot, rfl, _, k1, _⟩ := HK.out.2.2.2.1 i t ht
      have hsz := HK.out.2.2.2.2 t (List.mem_of_getElem? ht)
      have d1 := hb_cell HB1.out.1 k1
      have hlti : (i : Int) < (n : Int) := by omega
      have HQn := Lib.hid (show q + (t.2.1.size : Int) = s + (1 + (n : Int)) + (sumT (ts.take (i + 1)) : Int) by rw [sumT_take ts i t ht, HQ.out]; omega)
      obtain ⟨str, hstr⟩ : ∃ str, str = t.2.1 := ⟨_, rfl⟩
      rw [← hstr] at d1 hsz HQn
      clear k1 ht hstr
      by_cases hbig : 3000 ≤ q + (str.size : Int)
      · go_wp2_with fail
        go_ret
        exact ⟨3000, rfl, by omega, hs1, fun h => absurd h (by omega), HB1.out.1⟩
      · go_wp2_with fail
        go_roundg g
        case measure => omega
        case rel => exact ⟨i + 1, q + (str.size : Int), by omega, by go_num, rfl, by omega, by omega, HQn, rfl⟩
    | zero =>
      have hin : n = i := by omega
      subst hin
      have HQe := Lib.hid (show q = s + (1 + (n : Int)) + (sumT ts : Int) + (wtK (ks.take 0) : Int) by
        rw [HQ.out, HM.out.2, List.take_length, List.take_zero]
        simp [wtK])
      go_wp2_with fail
      clear c2 c3
      go_loopg [2, 42] m (fun g s2 s42 wy => ∃ (j : Nat) (q2 : Int), j + g = m ∧ s42 = .int .i64 (j : Int) ∧ s2 = .int .i64 q2 ∧ s + (1 + (n : Int)) + (j : Int) ≤ q2 ∧ q2 < 3000 ∧ Hid (q2 = s + (1 + (n : Int)) + (sumT ts : Int) + (wtK (ks.take j) : Int)) ∧ Hid (∀ (a : Nat) (x : Nd), a < j → ks[a]? = some x → FewN x) ∧ Hid (Below wr.heap.size wr wy))
      case atStart => exact ⟨0, q, by omega, rfl, rfl, by omega, by omega, HQe, Lib.hid fun a x ha => absurd ha (by omega), Lib.hid (Below.refl _ _)⟩
      case round =>
        obtain ⟨j, q2, hjg, rfl, rfl, hp0, hp1, HQ2, HF, HB⟩ := hrel
        cases gk with
        | zero =>
          have HFin := Lib.hid (show FewN (.mk k f ts ks) ∧ q2 = s + (wtN (.mk k f ts ks) : Int) from ⟨.mk (by rw [← HM.out.2]; omega) (by rw [← HM.out.1]; omega) (fun x hx => by
            obtain ⟨a, ha, rfl⟩ := List.getElem_of_mem hx
            exact HF.out a _ (by have := HM.out.1; omega) (List.getElem?_eq_getElem ha)), by
            rw [HQ2.out, show j = ks.length from by have := HM.out.1; omega, List.take_length, wtN, ← HM.out.2]
            omega⟩)
          go_wp2_with fail
          go_ret
          exact ⟨q2, rfl, by omega, by omega, fun _ => HFin.out, lowT HB1.out.1 HB.out⟩
        | succ g =>
          have hlt : j < m := by omega
          obtain ⟨x, hx⟩ : ∃ x, ks[j]? = some x := ⟨_, List.getElem?_eq_getElem (by rw [← HM.out.1]; exact hlt)⟩
          obtain ⟨rj, hrj⟩ : ∃ rj, rs[j]? = some rj := ⟨_, List.getElem?_eq_getElem (by rw [HK.out.2.1, ← HM.out.1]; exact hlt)⟩
          obtain ⟨gj, oj, rfl, hcj⟩ := HK.out.1 j rj hrj
          have hrd := HK.out.2.2.1 j x rj hx hrj
          have hbw := lowT HB1.out.1 HB.out
          have HI := Lib.hid (show ∀ q : Int, 0 ≤ q → q < 3000 → Calls Tryz.prog 12 #[rnV rj, .int .i64 (d - 1), .int .i64 q] wr fun e w' => ∃ v : Int, e = .returned (.int .i64 v) ∧ v ≤ 3000 ∧ q < v ∧ (v < 3000 → FewN x ∧ v = q + (wtN x : Int)) ∧ Below wr.heap.size wr w' from fun q h1 h2 => HIh.out j x rj hx hrj wr hbw q (hrd.after hbw) (by omega) (by omega) h1 h2)
          obtain ⟨k5, f5, tv5, kv5⟩ := rj
          obtain ⟨ta5, tn5, tc5, ka5, kn5, kc5, rfl, rfl⟩ := hrd.slices
          rw [show rnV (k5, f5, .slice ta5 tn5 tc5, .slice ka5 kn5 kc5) = .agg #[.int .i64 k5, .int .u8 f5, .slice ta5 tn5 tc5, .slice ka5 kn5 kc5] from rfl] at HI
          have e0 := hb_cell hbw (hcj 0 _ rfl)
          have e1 := hb_cell hbw (hcj 1 _ rfl)
          have e2 := hb_cell hbw (hcj 2 _ rfl)
          have e3 := hb_cell hbw (hcj 3 _ rfl)
          rw [Nat.add_zero] at e0
          have c3 := cell_at (blkT HB1.out.2 HB.out) 3
          simp only [List.getElem?_toArray, List.getElem?_cons_zero, List.getElem?_cons_succ] at c3
          have hltj : (j : Int) < (m : Int) := by omega
          have HX := Lib.hid hx
          clear hx hrj hcj hrd hbw
          go_wp2_with fail
          refine (HI.out q2 (by omega) hp1).mono ?_
          rintro e w6 ⟨v, rfl, hv0, hv1, hv2, hb6⟩
          have HQ3 := Lib.hid (show v < 3000 → v = s + (1 + (n : Int)) + (sumT ts : Int) + (wtK (ks.take (j + 1)) : Int) from fun h => by
            rw [wtK_take ks j x HX.out, (hv2 h).2, HQ2.out]
            omega)
          have HV := Lib.hid (show v < 3000 → ∀ (a : Nat) (y : Nd), a < j + 1 → ks[a]? = some y → FewN y from fun h a y ha hy => by
            by_cases e : a = j
            · subst e; rw [HX.out] at hy; injection hy with hy; subst hy; exact (hv2 h).1
            · exact HF.out a y (by omega) hy)
          have HB6 := Lib.hid (lowT HB.out hb6)
          clear hv2 hb6 c3 e0 e1 e2 e3
          by_cases hbig : 3000 ≤ v
          · go_wp2_with fail
            go_ret
            exact ⟨3000, rfl, by omega, hs1, fun h => absurd h (by omega), lowT HB1.out.1 HB6.out⟩
          · have HVn := Lib.hid (HV.out (by omega))
            have HQn := Lib.hid (HQ3.out (by omega))
            go_wp2_with fail
            go_roundg g
            case measure => omega
            case rel => exact ⟨j + 1, v, by omega, by go_num, rfl, by omega, by omega, HQn, HVn, HB6⟩
/-- It answers yes or no; no only of a tree that can be gone through. -/
structure Great2Done (x : Nd) (w : World) (e : Ending) (w' : World) : Prop where
  has : ∃ b : Bool, e = .returned (.bool b) ∧ (b = false → FewN x ∧ wtN x < 3000)
  low : Below w.heap.size w w'
set_option maxRecDepth 100000 in
set_option maxHeartbeats 4000000 in
theorem great2_any (w : World) (S : Nat → Prop) (x : Nd) (r : Rn) (h : RdN w S x r) (hre : ReachN x) :
    Calls Tryz.prog 5 #[rnV r] w fun e w' => Great2Done x w e w' := by
  have HW := Lib.hid (fun wx (hb : Below w.heap.size w wx) => weight2_any x hre wx S r 400 0 (h.after hb) (by decide) (by decide) (by decide) (by decide))
  obtain ⟨k, f, tv, kv⟩ := r
  obtain ⟨ta, tn, tc, ka, kn, kc, rfl, rfl⟩ := h.slices
  clear h
  rw [show rnV (k, f, .slice ta tn tc, .slice ka kn kc) = .agg #[.int .i64 k, .int .u8 f, .slice ta tn tc, .slice ka kn kc] from rfl] at HW ⊢
  go_enter Tryz.func5, Tryz.ntmps5
  go_wp2_with fail
  refine (HW.out _ below_one).mono ?_
  rintro e w1 ⟨v, rfl, _, _, hv, hb⟩
  have HV := Lib.hid (And.intro hv (lowT below_one hb))
  clear hv hb
  go_wp2_with fail
  go_ret
  exact ⟨⟨decide (3000 ≤ v), rfl, fun h => by
    have h3 : v < 3000 := by simpa using h
    have := HV.out.1 h3
    exact ⟨this.1, by omega⟩⟩, HV.out.2⟩
end Go.Proofs.YthkpaelpnofbgaaGreatDoor
