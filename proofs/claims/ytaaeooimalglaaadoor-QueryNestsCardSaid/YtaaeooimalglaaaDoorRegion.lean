/-
  A region that draws its order, met operation by operation and not order by order: whatever comes up next finds the values of what it waits for, and keeps a condition on the world that may hang on which operations have come up. Over any program. Nothing of one layer stands here.
-/
import Derived.Test.YtaaeooimalglaaaDoorKit
import Derived.Orders
import Derived.StillTail
namespace Go.Proofs.YtaaeooimalglaaaDoor
open Go.RowKit

section
variable {P : Program} {ops : Array Oper}

/-- No way out is borne. -/
def NoWay : Exit → Act → World → Prop := fun _ _ _ => False
def dstOf (ops : Array Oper) (j : Nat) : Option Tmp := (ops[j]?).bind (·.dst)

/-- The frame behind the first k operations. -/
def putTo (ops : Array Oper) (V : Nat → Value) (a : Act) : Nat → Act
  | 0 => a
  | k + 1 => (putTo ops V a k).put (dstOf ops k) (V k)

/-- The frame behind those operations that have come up. -/
structure Slots (ops : Array Oper) (V : Nat → Value) (a0 : Act) (l : Nat → Bool) (a : Act) : Prop where
  defers : a.defers = a0.defers
  size : a.tmps.size = a0.tmps.size
  set : ∀ j d, dstOf ops j = some d → l j = true → a.tmps[d]? = some (V j)
  old : ∀ t, (∀ j, dstOf ops j = some t → l j = false) → a.tmps[t]? = a0.tmps[t]?

/-- What is asked of a region's text. L: of which pairs the first one looks at what the second one, that comes behind it in each order, turns. -/
def regionL (L : Nat → Nat → Bool) (ops : Array Oper) (n : Nat) : Bool :=
  (List.range ops.size).all fun i => match ops[i]? with
    | none => true
    | some o =>
      (match o.op with | .select _ _ => false | _ => true) &&
      ((match o.dst with | none => true | some d => decide (d < n) && (List.range ops.size).all fun j => j == i || dstOf ops j != some d) &&
      ((o.after.all fun e => !Region.binds .any e || decide (e.on < i)) &&
      (List.range ops.size).all fun j => match dstOf ops j with | none => true | some d => !(o.looksAt ops).contains d || (Region.waitsFor .any ops i j || L i j)))
def regionB (ops : Array Oper) (n : Nat) : Bool := regionL (fun _ _ => false) ops n

structure Fair (L : Nat → Nat → Bool) (ops : Array Oper) (n : Nat) : Prop where
  sel : ∀ (i : Nat) (o : Oper), ops[i]? = some o → ∀ cs b, o.op ≠ .select cs b
  lt : ∀ i d, dstOf ops i = some d → d < n
  one : ∀ i j d, dstOf ops i = some d → dstOf ops j = some d → j = i
  back : ∀ (i : Nat) (o : Oper), ops[i]? = some o → ∀ e ∈ o.after, Region.binds .any e = true → e.on < i
  looks : ∀ (i : Nat) (o : Oper), ops[i]? = some o → ∀ j d, dstOf ops j = some d → d ∈ o.looksAt ops → (∃ e ∈ o.after, Region.binds .any e = true ∧ e.on = j) ∨ L i j = true

set_option maxRecDepth 100000 in
theorem dstOf_lt {j : Nat} {d : Tmp} (h : dstOf ops j = some d) : j < ops.size := by
  unfold dstOf at h
  cases ho : ops[j]? with
  | none => simp [ho] at h
  | some o => exact (Array.getElem?_eq_some_iff.1 ho).1
set_option maxRecDepth 100000 in
theorem dstOf_of {j : Nat} {o : Oper} (h : ops[j]? = some o) : dstOf ops j = o.dst := by simp [dstOf, h]
set_option maxRecDepth 100000 in
theorem dstOf_some {j : Nat} {d : Tmp} (h : dstOf ops j = some d) : ∃ o, ops[j]? = some o ∧ o.dst = some d := by
  unfold dstOf at h
  cases ho : ops[j]? with
  | none => simp [ho] at h
  | some o => exact ⟨o, rfl, by simpa [ho] using h⟩

set_option maxRecDepth 100000 in
theorem Fair.of {L : Nat → Nat → Bool} {n : Nat} (h : regionL L ops n = true) : Fair L ops n := by
  have key : ∀ i o, ops[i]? = some o → (match o.op with | .select _ _ => false | _ => true) = true ∧
      (match o.dst with | none => true | some d => decide (d < n) && (List.range ops.size).all fun j => j == i || dstOf ops j != some d) = true ∧
      (o.after.all fun e => !Region.binds .any e || decide (e.on < i)) = true ∧
      ((List.range ops.size).all fun j => match dstOf ops j with | none => true | some d => !(o.looksAt ops).contains d || (Region.waitsFor .any ops i j || L i j)) = true := by
    intro i o ho
    have hi := (Array.getElem?_eq_some_iff.1 ho).1
    have := List.all_eq_true.1 h i (List.mem_range.2 hi)
    rw [ho] at this
    simp only [Bool.and_eq_true] at this
    exact this
  refine ⟨fun i o ho cs b hs => ?_, fun i d hd => ?_, fun i j d hi hj => ?_, fun i o ho e he hb => ?_, fun i o ho j d hd hl => ?_⟩
  · have := (key i o ho).1
    rw [hs] at this
    cases this
  · obtain ⟨o, ho, hd⟩ := dstOf_some hd
    have := (key i o ho).2.1
    simp only [hd, Bool.and_eq_true, decide_eq_true_eq] at this
    exact this.1
  · obtain ⟨o, ho, hd⟩ := dstOf_some hi
    have := (key i o ho).2.1
    simp only [hd, Bool.and_eq_true, decide_eq_true_eq] at this
    have := List.all_eq_true.1 this.2 j (List.mem_range.2 (dstOf_lt hj))
    simp only [Bool.or_eq_true, beq_iff_eq, bne_iff_ne, ne_eq] at this
    rcases this with h | h
    · exact h
    · exact absurd hj h
  · have := (key i o ho).2.2.1
    rw [Array.all_eq_true_iff_forall_mem] at this
    have := this e he
    rw [hb] at this
    simpa using this
  · have := (key i o ho).2.2.2
    have := List.all_eq_true.1 this j (List.mem_range.2 (dstOf_lt hd))
    rw [hd] at this
    simp only [Bool.or_eq_true, Bool.not_eq_true'] at this
    rcases this with h | h | h
    · have : (o.looksAt ops).contains d = true := List.contains_iff_mem.2 hl
      rw [h] at this
      cases this
    rotate_left
    · exact .inr h
    · refine .inl ?_
      obtain ⟨oj, hoj, e, he, hb, hon⟩ := Region.waitsFor_spec h
      obtain rfl : o = oj := Option.some.inj (ho.symm.trans hoj)
      exact ⟨e, he, hb, hon⟩

set_option maxRecDepth 100000 in
theorem Slots.start (V : Nat → Value) (a0 : Act) : Slots ops V a0 (fun _ => false) a0 := ⟨rfl, rfl, (fun _ _ _ h => by cases h), fun _ _ => rfl⟩

set_option maxRecDepth 100000 in
theorem Slots.put {L : Nat → Nat → Bool} {n : Nat} (hf : Fair L ops n) {V V' : Nat → Value} {a0 a : Act} {l l' : Nat → Bool} (h : Slots ops V a0 l a) (hn : a0.tmps.size = n) (i : Nat) (hl' : ∀ j, l' j = (j == i || l j)) (hi : l i = false) (hV : ∀ j, l j = true → V' j = V j) :
    Slots ops V' a0 l' (a.put (dstOf ops i) (V' i)) := by
  cases hd : dstOf ops i with
  | none =>
    refine ⟨h.defers, h.size, fun j d hj hl => ?_, fun t ht => h.old t fun j hj => ?_⟩
    · have hne : j ≠ i := by rintro rfl; rw [hd] at hj; cases hj
      have : l j = true := by rw [hl'] at hl; simpa [hne] using hl
      rw [hV j this]
      exact h.set j d hj this
    · have := ht j hj
      rw [hl'] at this
      simp at this
      exact this.2
  | some d =>
    have hlt : d < a.tmps.size := by rw [h.size, hn]; exact hf.lt i d hd
    refine ⟨h.defers, by simpa [Act.put] using h.size, fun j d' hj hl => ?_, fun t ht => ?_⟩
    · by_cases hji : j = i
      · subst hji
        obtain rfl : d = d' := Option.some.inj (hd.symm.trans hj)
        simp [Act.put, hlt]
      · have hne : d ≠ d' := by rintro rfl; exact hji (hf.one i j d hd hj)
        have : l j = true := by rw [hl'] at hl; simpa [hji] using hl
        simp only [Act.put, Array.getElem?_setIfInBounds_ne hne]
        rw [hV j this]
        exact h.set j d' hj this
    · have hne : d ≠ t := by rintro rfl; have := ht i hd; rw [hl'] at this; simp at this
      simp only [Act.put, Array.getElem?_setIfInBounds_ne hne]
      refine h.old t fun j hj => ?_
      have := ht j hj
      rw [hl'] at this
      simp at this
      exact this.2

set_option maxRecDepth 100000 in
theorem Slots.putTo {L : Nat → Nat → Bool} {n : Nat} (hf : Fair L ops n) (V : Nat → Value) (a0 : Act) (hn : a0.tmps.size = n) : ∀ k, Slots ops V a0 (fun j => decide (j < k)) (putTo ops V a0 k)
  | 0 => by
    have e : (fun j => decide (j < 0)) = fun _ => false := funext fun j => by simp
    rw [e]
    exact Slots.start V a0
  | k + 1 => Slots.put hf (Slots.putTo hf V a0 hn k) hn k (fun j => by rw [Bool.eq_iff_iff]; simp; omega) (by simp) (fun _ _ => rfl)

set_option maxRecDepth 100000 in
theorem Slots.same {V : Nat → Value} {a0 a b : Act} {l l' : Nat → Bool} (h : Slots ops V a0 l a) (h' : Slots ops V a0 l' b) (hl : ∀ j, j < ops.size → l j = true) (hl' : ∀ j, j < ops.size → l' j = true) : a = b := by
  have ht : a.tmps = b.tmps := by
    apply Array.ext_getElem?
    intro t
    by_cases e : ∃ j, dstOf ops j = some t
    · obtain ⟨j, hj⟩ := e
      rw [h.set j t hj (hl j (dstOf_lt hj)), h'.set j t hj (hl' j (dstOf_lt hj))]
    · rw [h.old t fun j hj => absurd ⟨j, hj⟩ e, h'.old t fun j hj => absurd ⟨j, hj⟩ e]
  have hd : a.defers = b.defers := h.defers.trans h'.defers.symm
  cases a; cases b; simp_all

set_option maxRecDepth 100000 in
/-- What an operation looks at it finds as it lies behind the whole region. -/
theorem Slots.looks {L : Nat → Nat → Bool} {n : Nat} (hf : Fair L ops n) {V : Nat → Value} {a0 a b : Act} {l : Nat → Bool} (h : Slots ops V a0 l a) (h' : Slots ops V a0 (fun j => decide (j < ops.size)) b) {i : Nat} {o : Oper} (ho : ops[i]? = some o)
    (hl : ∀ e ∈ o.after, Region.binds .any e = true → l e.on = true) (hL : ∀ j d, L i j = true → dstOf ops j = some d → l j = false ∧ a0.tmps[d]? = some (V j)) (d : Tmp) (hd : d ∈ o.looksAt ops) : a.tmps[d]? = b.tmps[d]? := by
  by_cases e : ∃ j, dstOf ops j = some d
  · obtain ⟨j, hj⟩ := e
    rcases hf.looks i o ho j d hj hd with ⟨e, he, hb, rfl⟩ | hlj
    · rw [h.set _ d hj (hl e he hb), h'.set _ d hj (by simpa using dstOf_lt hj)]
    · obtain ⟨h1, h2⟩ := hL j d hlj hj
      rw [h.old d (fun k hk => by rw [hf.one j k d hj hk]; exact h1), h'.set _ d hj (by simpa using dstOf_lt hj)]
      exact h2
  · rw [h.old d fun j hj => absurd ⟨j, hj⟩ e, h'.old d fun j hj => absurd ⟨j, hj⟩ e]

set_option maxRecDepth 100000 in
theorem Slots.exec {L : Nat → Nat → Bool} {n : Nat} (hf : Fair L ops n) {V : Nat → Value} {a0 a b : Act} {l : Nat → Bool} (h : Slots ops V a0 l a) (h' : Slots ops V a0 (fun j => decide (j < ops.size)) b) {i : Nat} {o : Oper} (ho : ops[i]? = some o)
    (hl : ∀ e ∈ o.after, Region.binds .any e = true → l e.on = true) (hL : ∀ j d, L i j = true → dstOf ops j = some d → l j = false ∧ a0.tmps[d]? = some (V j)) : execOp a.eval o = execOp b.eval o :=
  execOp_congr o (hf.sel i o ho) fun x hx => by
    cases x with
    | tmp t =>
      have := h.looks hf h' ho hl hL t (List.mem_append_left _ (List.mem_filterMap.2 ⟨.tmp t, by simpa using hx, rfl⟩))
      simp [Act.eval, this]
    | const v => rfl
    | global g => rfl
    | func f => rfl

set_option maxRecDepth 100000 in
theorem Slots.wanted {L : Nat → Nat → Bool} {n : Nat} (hf : Fair L ops n) {V : Nat → Value} {a0 a b : Act} {l : Nat → Bool} (h : Slots ops V a0 l a) (h' : Slots ops V a0 (fun j => decide (j < ops.size)) b) {i : Nat} {o : Oper} (ho : ops[i]? = some o)
    (hl : ∀ e ∈ o.after, Region.binds .any e = true → l e.on = true) (hL : ∀ j d, L i j = true → dstOf ops j = some d → l j = false ∧ a0.tmps[d]? = some (V j)) : Region.wanted o (yielded ops a.tmps) = Region.wanted o (yielded ops b.tmps) := by
  unfold Region.wanted
  cases hg : o.guard with
  | none => rfl
  | some gw =>
    obtain ⟨g, want⟩ := gw
    have hy : yielded ops a.tmps g = yielded ops b.tmps g := by
      unfold yielded
      cases ht : (ops[g]?).bind (·.dst) with
      | none => rfl
      | some t =>
        have := h.looks hf h' ho hl hL t (by simp [Oper.looksAt, hg, ht])
        simp [this]
    simp only [hy]

set_option maxRecDepth 100000 in
theorem NoWay.letsOut {x : Prop} (h : LetsOut NoWay) : x := by obtain ⟨_, _, h⟩ := h; exact h.elim

set_option maxRecDepth 100000 in
/-- The step from the frame behind the whole region to the frame at hand. -/
theorem wp_carry {Q : Exit → Act → World → Prop} {o : Oper} {a b : Act} {w : World} {K : Act → World → Prop} (he : execOp a.eval o = execOp b.eval o)
    (h : o.wp P b w (fun a' w' => ∃ v, a' = b.put o.dst v ∧ K (a.put o.dst v) w' ) NoWay) (hinj : ∀ v u, b.put o.dst v = b.put o.dst u → a.put o.dst v = a.put o.dst u) : o.wp P a w K Q := by
  unfold Oper.wp at *
  rw [he]
  generalize (execOp b.eval o).run P w = r at *
  cases r with
  | ok n w' =>
    cases n <;> simp only [Oper.upon] at h ⊢
    case value v =>
      obtain ⟨u, hu, hk⟩ := h
      rw [hinj v u hu]; exact hk
    case skip =>
      obtain ⟨u, hu, hk⟩ := h
      rw [hinj undef u hu]; exact hk
    case defer d =>
      obtain ⟨u, hu, _⟩ := h
      have := congrArg Act.defers hu
      cases hd : o.dst <;> simp [Act.put, hd] at this
    case enter f args =>
      refine Calls.mono h fun e w'' hh => ?_
      cases e with
      | returned v =>
        obtain ⟨u, hu, hk⟩ := hh
        show K (a.put o.dst v) w''
        rw [hinj v u hu]; exact hk
      | panicked c => exact hh.elim
      | outgrown => exact NoWay.letsOut hh
    case row row args =>
      refine Rows.mono h fun v w'' hh => ?_
      obtain ⟨u, hu, hk⟩ := hh
      rw [hinj v u hu]; exact hk
  | halt x w' => cases x <;> simp only [Oper.upon] at h ⊢; exact h.elim

set_option maxRecDepth 100000 in
theorem put_inj {n : Nat} {a b : Act} {d : Option Tmp} (_ha : a.tmps.size = n) (hb : b.tmps.size = n) (hd : ∀ x, d = some x → x < n) (v u : Value) (h : b.put d v = b.put d u) : a.put d v = a.put d u := by
  cases d with
  | none => rfl
  | some x =>
    have hx := hd x rfl
    have := congrArg (fun c : Act => c.tmps[x]?) h
    simp [Act.put, hb, hx] at this
    rw [this]

set_option maxRecDepth 100000 in
theorem getD_set (listed : Array Bool) (i j : Nat) (hi : i < listed.size) : (listed.setIfInBounds i true).getD j false = (j == i || listed.getD j false) := by
  by_cases e : i = j
  · subst e; simp [hi]
  · have e' : ¬ j = i := fun h => e h.symm
    simp [Array.getElem?_setIfInBounds_ne e, e']

set_option maxRecDepth 100000 in
theorem all_listed {L : Nat → Nat → Bool} {n : Nat} (hf : Fair L ops n) {listed : Array Bool} (hs : listed.size = ops.size) (hr : Region.ready .any ops listed = []) : ∀ j, j < ops.size → listed.getD j false = true := by
  intro j
  induction j using Nat.strongRecOn with
  | _ j ih =>
    intro hj
    cases hl : listed.getD j false with
    | true => rfl
    | false =>
      obtain ⟨o, ho⟩ : ∃ o, ops[j]? = some o := ⟨_, Array.getElem?_eq_getElem hj⟩
      have : j ∈ Region.ready .any ops listed := mem_ready.2 ⟨getD_in (by omega) hl, o, ho, fun e he hb => by
        have hlt := hf.back j o ho e he hb
        exact ih e.on hlt (by omega)⟩
      rw [hr] at this
      cases this

/-- What has come up has come up behind what it waits for. -/
def ClosedL (ops : Array Oper) (l : Nat → Bool) : Prop := ∀ (i : Nat) (o : Oper), ops[i]? = some o → l i = true → ∀ e ∈ o.after, Region.binds .any e = true → l e.on = true
set_option maxRecDepth 100000 in
/-- The region, operation by operation. V: what each operation yields; R: the condition on the world; both may hang on a state that the operations choose (where new memory lies). -/
theorem wp_region_late {σ : Type} {id : Nat} {a0 : Act} {w : World} {Q : Exit → Act → World → Prop} (V : σ → Nat → Value) (R : σ → (Nat → Bool) → World → Prop) (aT : σ → Act)
    (hm : P.follows .mixedOrders = true) (L : Nat → Nat → Bool) (hB : regionL L ops a0.tmps.size = true) (hT : ∀ s, aT s = putTo ops (V s) a0 ops.size) (s0 : σ) (h0 : R s0 (fun _ => false) w.drew)
    (hcon : ∀ l, ClosedL ops l → ∀ i j, L i j = true → l j = true → l i = true) (hlate : ∀ s l wx, R s l wx → ∀ i j d, L i j = true → dstOf ops j = some d → l j = false → a0.tmps[d]? = some (V s j))
    (step : ∀ (i : Nat) (o : Oper), ops[i]? = some o → ∀ (s : σ) (l : Nat → Bool) (wx : World), R s l wx → l i = false → (∀ e ∈ o.after, Region.binds .any e = true → l e.on = true) →
      ∀ K : Act → World → Prop, (∀ (s' : σ) (w' : World), (∀ j, l j = true → V s' j = V s j) → R s' (fun j => j == i || l j) w' → K ((aT s).put o.dst (V s' i)) w') →
        if Region.wanted o (yielded ops (aT s).tmps) then o.wp P (aT s) wx K NoWay else K ((aT s).put o.dst undef) wx)
    (fin : ∀ (s : σ) (l : Nat → Bool) (wx : World), (∀ j, j < ops.size → l j = true) → R s l wx → Q .normal (aT s) wx) : (Code.region id ops true).wp P Q a0 w := by
  have hf := Fair.of hB
  refine wp_region_any hm ?_
  have main : ∀ (fuel : Nat) (listed : Array Bool) (a : Act) (wx : World) (s : σ), listed.size = ops.size → listed.toList.count false ≤ fuel → Slots ops (V s) a0 (fun j => listed.getD j false) a → ClosedL ops (fun j => listed.getD j false) → R s (fun j => listed.getD j false) wx →
      wpAny P .any ops Q fuel listed a wx := by
    intro fuel
    have done : ∀ (listed : Array Bool) (a : Act) (wx : World) (s : σ), listed.size = ops.size → Slots ops (V s) a0 (fun j => listed.getD j false) a → R s (fun j => listed.getD j false) wx → Region.ready .any ops listed = [] → Q .normal a wx := by
      intro listed a wx s hs hS hR hr
      have hl := all_listed hf hs hr
      have := hS.same (Slots.putTo hf (V s) a0 rfl ops.size) hl (fun j hj => by simpa using hj)
      rw [this, ← hT]
      exact fin s _ wx hl hR
    induction fuel with
    | zero =>
      intro listed a wx s hs hc hS hCl hR
      have hr : Region.ready .any ops listed = [] := by
        cases hr : Region.ready .any ops listed with
        | nil => rfl
        | cons i is =>
          have hi : i ∈ Region.ready .any ops listed := by rw [hr]; exact List.mem_cons_self
          obtain ⟨h1, o, ho, _⟩ := mem_ready.1 hi
          have hlt := (Array.getElem?_eq_some_iff.1 ho).1
          have : false ∈ listed.toList := by
            have hlt' : i < listed.size := by omega
            have h2 : listed[i] = false := by simpa [hlt'] using h1
            rw [← h2]
            exact List.mem_of_getElem (i := i) (h := by simpa using hlt') (by simp)
          have := List.count_pos_iff.2 this
          omega
      exact ⟨hr, done listed a wx s hs hS hR hr⟩
    | succ fuel ih =>
      intro listed a wx s hs hc hS hCl hR
      refine ⟨done listed a wx s hs hS hR, fun i hi => ?_⟩
      obtain ⟨h1, o, ho, hedge⟩ := mem_ready.1 hi
      have hlt := (Array.getElem?_eq_some_iff.1 ho).1
      have hlt' : i < listed.size := by omega
      have h1' := getD_both h1
      have hTs := Slots.putTo hf (V s) a0 rfl ops.size
      rw [← hT] at hTs
      have hd : ∀ x, o.dst = some x → x < a0.tmps.size := fun x hx => hf.lt i x ((dstOf_of ho).trans hx)
      have hcount : (listed.setIfInBounds i true).toList.count false ≤ fuel := by
        have h2 : listed[i] = false := by simpa [hlt'] using h1
        have : listed.toList.count false = (listed.setIfInBounds i true).toList.count false + 1 := by
          rw [Array.toList_setIfInBounds, List.count_set (by simpa using hlt')]
          have hp : 0 < listed.toList.count false := List.count_pos_iff.2 (by
            rw [← h2]
            exact List.mem_of_getElem (i := i) (h := by simpa using hlt') (by simp))
          rw [Array.count_toList] at hp
          simp [h2]
          omega
        omega
      have next : ∀ (s' : σ) (w' : World), (∀ j, listed.getD j false = true → V s' j = V s j) → R s' (fun j => j == i || listed.getD j false) w' →
          wpAny P .any ops Q fuel (listed.setIfInBounds i true) (a.put o.dst (V s' i)) w' := by
        intro s' w' hV hR'
        have e : (fun j => (listed.setIfInBounds i true).getD j false) = (fun j => j == i || listed.getD j false) := funext fun j => getD_set listed i j hlt'
        refine ih _ _ w' s' (by simpa using hs) hcount ?_ ?_ (by rw [e]; exact hR')
        rotate_left
        · rw [e]
          intro k ok hok hk e2 he2 hb2
          simp only [Bool.or_eq_true, beq_iff_eq] at hk ⊢
          rcases hk with rfl | hk
          · obtain rfl : o = ok := Option.some.inj (ho.symm.trans hok)
            exact .inr (hedge e2 he2 hb2)
          · exact .inr (hCl k ok hok hk e2 he2 hb2)
        have := Slots.put hf hS rfl i (fun j => getD_set listed i j hlt') h1' hV
        rw [dstOf_of ho] at this
        exact this
      have st := step i o ho s _ wx hR h1' (fun e he hb => hedge e he hb)
      have hL : ∀ j d, L i j = true → dstOf ops j = some d → listed.getD j false = false ∧ a0.tmps[d]? = some (V s j) := by
        intro j d hlj hdj
        have hj : listed.getD j false = false := by
          cases hx : listed.getD j false with
          | false => rfl
          | true => have := hcon _ hCl i j hlj hx; rw [h1'] at this; cases this
        exact ⟨hj, hlate s _ wx hR i j d hlj hdj hj⟩
      unfold wpOp
      simp only [ho]
      rw [Slots.wanted hf hS hTs ho (fun e he hb => hedge e he hb) hL]
      have hsz : (aT s).tmps.size = a0.tmps.size := hTs.size
      by_cases hw : Region.wanted o (yielded ops (aT s).tmps) = true
      · simp only [hw, if_true] at st ⊢
        refine .inl (wp_carry (Slots.exec hf hS hTs ho (fun e he hb => hedge e he hb) hL) (st _ ?_) (put_inj hS.size hsz hd))
        intro s' w' hV hR'
        exact ⟨V s' i, rfl, next s' w' hV hR'⟩
      · simp only [hw, if_false, Bool.false_eq_true] at st ⊢
        have := st (fun a' w' => ∃ v, a' = (aT s).put o.dst v ∧ wpAny P .any ops Q fuel (listed.setIfInBounds i true) (a.put o.dst v) w') (fun s' w' hV hR' => ⟨V s' i, rfl, next s' w' hV hR'⟩)
        obtain ⟨v, hv, hk⟩ := this
        rw [put_inj hS.size hsz hd undef v hv]
        exact hk
  refine main ops.size _ a0 _ s0 (by simp) (by simp) ?_ ?_ ?_
  rotate_left
  · have e : (fun j => (Array.replicate ops.size false).getD j false) = fun _ => false := funext fun j => getD_replicate_false _ _
    rw [e]
    intro k ok hok hk
    cases hk
  rotate_left
  · have e : (fun j => (Array.replicate ops.size false).getD j false) = fun _ => false := funext fun j => getD_replicate_false _ _
    rw [e]
    exact Slots.start _ _
  · have e : (fun j => (Array.replicate ops.size false).getD j false) = fun _ => false := funext fun j => getD_replicate_false _ _
    rw [e]
    exact h0
set_option maxRecDepth 100000 in
theorem wp_region_by {σ : Type} {id : Nat} {a0 : Act} {w : World} {Q : Exit → Act → World → Prop} (V : σ → Nat → Value) (R : σ → (Nat → Bool) → World → Prop) {aT : σ → Act}
    (hm : P.follows .mixedOrders = true) (hB : regionB ops a0.tmps.size = true) (hT : ∀ s, putTo ops (V s) a0 ops.size = aT s) (s0 : σ) (h0 : R s0 (fun _ => false) w.drew)
    (step : ∀ (i : Nat) (o : Oper), ops[i]? = some o → ∀ (s : σ) (l : Nat → Bool) (wx : World), R s l wx → l i = false → (∀ e ∈ o.after, Region.binds .any e = true → l e.on = true) →
      ∀ K : Act → World → Prop, (∀ (s' : σ) (w' : World), (∀ j, l j = true → V s' j = V s j) → R s' (fun j => j == i || l j) w' → K ((aT s).put o.dst (V s' i)) w') →
        if Region.wanted o (yielded ops (aT s).tmps) then o.wp P (aT s) wx K NoWay else K ((aT s).put o.dst undef) wx)
    (fin : ∀ (s : σ) (l : Nat → Bool) (wx : World), (∀ j, j < ops.size → l j = true) → R s l wx → Q .normal (aT s) wx) : (Code.region id ops true).wp P Q a0 w :=
  wp_region_late V R aT hm (fun _ _ => false) hB (fun s => (hT s).symm) s0 h0 (fun _ _ _ _ h => by cases h) (fun _ _ _ _ _ _ _ h => by cases h) step fin
set_option maxRecDepth 100000 in
/-- A whole row read out of memory, by an operation of such a region. -/
theorem region_load_row {o : Oper} {a : Act} {w : World} {K : Act → World → Prop} {Q : Exit → Act → World → Prop} (hw : Region.wanted o (yielded ops a.tmps) = true) (ty : TypeId) (x : Operand) (ho : o.op = .load ty x)
    (g : Nat) (hx : a.eval x = .pointer (some ⟨g, 0, none⟩)) (t : TypeId) (cs : Array Value) (fr : Nat × Nat) (d : TypeDesc) (hg : w.heap[g]? = some (.cells cs t fr))
    (hu : P.underlying ty = some d) (hd : (match d with | .struct _ | .array _ _ => true | _ => false) = true) (hi : (P.info? ty).map (·.size) = some cs.size)
    (h : K (a.put o.dst (.agg cs)) w) : if Region.wanted o (yielded ops a.tmps) then o.wp P a w K Q else K (a.put o.dst undef) w := by
  rw [if_pos hw]
  exact wp_load_row ty x ho g hx t cs fr d hg hu hd hi h
end
end Go.Proofs.YtaaeooimalglaaaDoor
