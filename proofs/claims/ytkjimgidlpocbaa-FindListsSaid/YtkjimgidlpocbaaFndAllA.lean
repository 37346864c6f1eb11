/-
  A region that draws its order, met operation by operation and not order by order: whatever comes up next finds the values of what it waits for, and keeps a condition on the world that may hang on which operations have come up. Over any program. Nothing of one layer stands here.
  The reference of layer 8: are two rows of numbers the same, and a copy. Over the program's own text.
  The reference of layer 1: are two rows of numbers the same, and a copy. Over the program's own text.
  The reference of layer 8: a number's bytes, the number at a place, all of them. Over the program's own text.
  The reference of layer 8: all numbers of a row of bytes. Over the program's own text.
  What the program's three functions of layer 8 keep, as the laws' walks take it; the laws' own example, given that. Over the program's own text.
  What the landed code's functions of layer 8 keep: a number's bytes, the number at a place, all of them. Over the program's own text.
  The landed code of layer 13: whether numbers rise, whether a list may be, a block's bytes. Over the program's own text.
  The landed code of layer 13: a block's bytes. Over the program's own text.
  slices.Chunk at size four over a row of entries: which parts it hands out, one behind the other. Over the program's own text.
  The reference of layer 7: places as cells, keys, numbers of texts. Over the program's own text.
  The reference of layer 7: a text's cells, the bytes of cells. Over the program's own text.
  What the program's six functions of layer 7 keep, as the laws' walks take it; the laws' own example, given that. Over the program's own text.
  What the landed code's functions of layer 7 keep. Over the program's own text.
  What the landed code's functions of layer 7 keep: a text's cells, the bytes of cells. Over the program's own text.
  A region that draws its order: what has come up holds all that it hangs on. Over any program's text.
  A region that draws its order, within a round of a range over a function: as in Region, under the round's fence. Over any program. Nothing of one layer stands here.
  The landed code of layer 13: Encode. Over the program's own text.
  A call's results where one of them lies in memory whole. Over any program.
  The landed code of layer 13: the next number, the next entry. Over the program's own text.
  The landed code of layer 13: cells read as a list, and Decode. Over the program's own text.
  The landed code of layer 13: Decode. What both of its functions keep, as the laws' walks take it. Over the program's own text.
-/
import Derived.Test.YtkjimgidlpocbaaKit
import Derived.Orders
import Derived.StillTail
import Derived.Test.YtkjimgidlpocbaaNums
import Derived.BigQuiet
import Derived.Laws.CopyOwn
import Derived.Test.YtkjimgidlpocbaaVlqPure
import Derived.StillTailTactics
import Derived.Test.YtkjimgidlpocbaaEnts
import Derived.RangeFuncBox
import Derived.RangeFuncLeaves
import Derived.Shelf.Abstract
import Derived.WalkKit
import Derived.OwnWalkIn
import Derived.TacticsInMore
import Derived.LoopNIn
import Derived.LoopIn
import Derived.Maps.AppendAt
import Derived.Test.YtkjimgidlpocbaaPackPure
import Derived.Laws.Bits64
import Derived.IntWalk
import Derived.Deep.OwnRows
import Derived.RangeFuncCalls
import Derived.OrdersIn
import Derived.Laws.IdiomStrings
namespace Go.Proofs.Ytkjimgidlpocbaa
open Go.RowKit

section
variable {P : Program} {ops : Array Oper}

/-- No way out is borne. -/
def NoWay : Exit → Act → World → Prop := fun _ _ _ => False
def dstOf (ops : Array Oper) (j : Nat) : Option Tmp := (ops[j]?).bind (·.dst)

/-- The frame behind the first k operations. -/
def putTo (ops : Array Oper) (V : Nat → Value) (a : Act) : Nat → Act
  | 0 => a
  | k + 1 => (putTo ops V a k).put (dstOf ops k) (V k)

/-- The frame behind those operations that have come up. -/
structure Slots (ops : Array Oper) (V : Nat → Value) (a0 : Act) (l : Nat → Bool) (a : Act) : Prop where
  defers : a.defers = a0.defers
  size : a.tmps.size = a0.tmps.size
  set : ∀ j d, dstOf ops j = some d → l j = true → a.tmps[d]? = some (V j)
  old : ∀ t, (∀ j, dstOf ops j = some t → l j = false) → a.tmps[t]? = a0.tmps[t]?

/-- What is asked of a region's text. L: of which pairs the first one looks at what the second one, that comes behind it in each order, turns. -/
def regionL (L : Nat → Nat → Bool) (ops : Array Oper) (n : Nat) : Bool :=
  (List.range ops.size).all fun i => match ops[i]? with
    | none => true
    | some o =>
      (match o.op with | .select _ _ => false | _ => true) &&
      ((match o.dst with | none => true | some d => decide (d < n) && (List.range ops.size).all fun j => j == i || dstOf ops j != some d) &&
      ((o.after.all fun e => !Region.binds .any e || decide (e.on < i)) &&
      (List.range ops.size).all fun j => match dstOf ops j with | none => true | some d => !(o.looksAt ops).contains d || (Region.waitsFor .any ops i j || L i j)))
def regionB (ops : Array Oper) (n : Nat) : Bool := regionL (fun _ _ => false) ops n

structure Fair (L : Nat → Nat → Bool) (ops : Array Oper) (n : Nat) : Prop where
  sel : ∀ (i : Nat) (o : Oper), ops[i]? = some o → ∀ cs b, o.op ≠ .select cs b
  lt : ∀ i d, dstOf ops i = some d → d < n
  one : ∀ i j d, dstOf ops i = some d → dstOf ops j = some d → j = i
  back : ∀ (i : Nat) (o : Oper), ops[i]? = some o → ∀ e ∈ o.after, Region.binds .any e = true → e.on < i
  looks : ∀ (i : Nat) (o : Oper), ops[i]? = some o → ∀ j d, dstOf ops j = some d → d ∈ o.looksAt ops → (∃ e ∈ o.after, Region.binds .any e = true ∧ e.on = j) ∨ L i j = true

theorem dstOf_lt {j : Nat} {d : Tmp} (h : dstOf ops j = some d) : j < ops.size := by
  unfold dstOf at h
  cases ho : ops[j]? with
  | none => simp [ho] at h
  | some o => exact (Array.getElem?_eq_some_iff.1 ho).1
theorem dstOf_of {j : Nat} {o : Oper} (h : ops[j]? = some o) : dstOf ops j = o.dst := by simp [dstOf, h]
theorem dstOf_some {j : Nat} {d : Tmp} (h : dstOf ops j = some d) : ∃ o, ops[j]? = some o ∧ o.dst = some d := by
  unfold dstOf at h
  cases ho : ops[j]? with
  | none => simp [ho] at h
  | some o => exact ⟨o, rfl, by simpa [ho] using h⟩

theorem Fair.of {L : Nat → Nat → Bool} {n : Nat} (h : regionL L ops n = true) : Fair L ops n := by
  have key : ∀ i o, ops[i]? = some o → (match o.op with | .select _ _ => false | _ => true) = true ∧
      (match o.dst with | none => true | some d => decide (d < n) && (List.range ops.size).all fun j => j == i || dstOf ops j != some d) = true ∧
      (o.after.all fun e => !Region.binds .any e || decide (e.on < i)) = true ∧
      ((List.range ops.size).all fun j => match dstOf ops j with | none => true | some d => !(o.looksAt ops).contains d || (Region.waitsFor .any ops i j || L i j)) = true := by
    intro i o ho
    have hi := (Array.getElem?_eq_some_iff.1 ho).1
    have := List.all_eq_true.1 h i (List.mem_range.2 hi)
    rw [ho] at this
    simp only [Bool.and_eq_true] at this
    exact this
  refine ⟨fun i o ho cs b hs => ?_, fun i d hd => ?_, fun i j d hi hj => ?_, fun i o ho e he hb => ?_, fun i o ho j d hd hl => ?_⟩
  · have := (key i o ho).1
    rw [hs] at this
    cases this
  · obtain ⟨o, ho, hd⟩ := dstOf_some hd
    have := (key i o ho).2.1
    simp only [hd, Bool.and_eq_true, decide_eq_true_eq] at this
    exact this.1
  · obtain ⟨o, ho, hd⟩ := dstOf_some hi
    have := (key i o ho).2.1
    simp only [hd, Bool.and_eq_true, decide_eq_true_eq] at this
    have := List.all_eq_true.1 this.2 j (List.mem_range.2 (dstOf_lt hj))
    simp only [Bool.or_eq_true, beq_iff_eq, bne_iff_ne, ne_eq] at this
    rcases this with h | h
    · exact h
    · exact absurd hj h
  · have := (key i o ho).2.2.1
    rw [Array.all_eq_true_iff_forall_mem] at this
    have := this e he
    rw [hb] at this
    simpa using this
  · have := (key i o ho).2.2.2
    have := List.all_eq_true.1 this j (List.mem_range.2 (dstOf_lt hd))
    rw [hd] at this
    simp only [Bool.or_eq_true, Bool.not_eq_true'] at this
    rcases this with h | h | h
    · have : (o.looksAt ops).contains d = true := List.contains_iff_mem.2 hl
      rw [h] at this
      cases this
    rotate_left
    · exact .inr h
    · refine .inl ?_
      obtain ⟨oj, hoj, e, he, hb, hon⟩ := Region.waitsFor_spec h
      obtain rfl : o = oj := Option.some.inj (ho.symm.trans hoj)
      exact ⟨e, he, hb, hon⟩

theorem Slots.start (V : Nat → Value) (a0 : Act) : Slots ops V a0 (fun _ => false) a0 := ⟨rfl, rfl, (fun _ _ _ h => by cases h), fun _ _ => rfl⟩

theorem Slots.put {L : Nat → Nat → Bool} {n : Nat} (hf : Fair L ops n) {V V' : Nat → Value} {a0 a : Act} {l l' : Nat → Bool} (h : Slots ops V a0 l a) (hn : a0.tmps.size = n) (i : Nat) (hl' : ∀ j, l' j = (j == i || l j)) (hi : l i = false) (hV : ∀ j, l j = true → V' j = V j) :
    Slots ops V' a0 l' (a.put (dstOf ops i) (V' i)) := by
  cases hd : dstOf ops i with
  | none =>
    refine ⟨h.defers, h.size, fun j d hj hl => ?_, fun t ht => h.old t fun j hj => ?_⟩
    · have hne : j ≠ i := by rintro rfl; rw [hd] at hj; cases hj
      have : l j = true := by rw [hl'] at hl; simpa [hne] using hl
      rw [hV j this]
      exact h.set j d hj this
    · have := ht j hj
      rw [hl'] at this
      simp at this
      exact this.2
  | some d =>
    have hlt : d < a.tmps.size := by rw [h.size, hn]; exact hf.lt i d hd
    refine ⟨h.defers, by simpa [Act.put] using h.size, fun j d' hj hl => ?_, fun t ht => ?_⟩
    · by_cases hji : j = i
      · subst hji
        obtain rfl : d = d' := Option.some.inj (hd.symm.trans hj)
        simp [Act.put, hlt]
      · have hne : d ≠ d' := by rintro rfl; exact hji (hf.one i j d hd hj)
        have : l j = true := by rw [hl'] at hl; simpa [hji] using hl
        simp only [Act.put, Array.getElem?_setIfInBounds_ne hne]
        rw [hV j this]
        exact h.set j d' hj this
    · have hne : d ≠ t := by rintro rfl; have := ht i hd; rw [hl'] at this; simp at this
      simp only [Act.put, Array.getElem?_setIfInBounds_ne hne]
      refine h.old t fun j hj => ?_
      have := ht j hj
      rw [hl'] at this
      simp at this
      exact this.2

theorem Slots.putTo {L : Nat → Nat → Bool} {n : Nat} (hf : Fair L ops n) (V : Nat → Value) (a0 : Act) (hn : a0.tmps.size = n) : ∀ k, Slots ops V a0 (fun j => decide (j < k)) (putTo ops V a0 k)
  | 0 => by
    have e : (fun j => decide (j < 0)) = fun _ => false := funext fun j => by simp
    rw [e]
    exact Slots.start V a0
  | k + 1 => Slots.put hf (Slots.putTo hf V a0 hn k) hn k (fun j => by rw [Bool.eq_iff_iff]; simp; omega) (by simp) (fun _ _ => rfl)

theorem Slots.same {V : Nat → Value} {a0 a b : Act} {l l' : Nat → Bool} (h : Slots ops V a0 l a) (h' : Slots ops V a0 l' b) (hl : ∀ j, j < ops.size → l j = true) (hl' : ∀ j, j < ops.size → l' j = true) : a = b := by
  have ht : a.tmps = b.tmps := by
    apply Array.ext_getElem?
    intro t
    by_cases e : ∃ j, dstOf ops j = some t
    · obtain ⟨j, hj⟩ := e
      rw [h.set j t hj (hl j (dstOf_lt hj)), h'.set j t hj (hl' j (dstOf_lt hj))]
    · rw [h.old t fun j hj => absurd ⟨j, hj⟩ e, h'.old t fun j hj => absurd ⟨j, hj⟩ e]
  have hd : a.defers = b.defers := h.defers.trans h'.defers.symm
  cases a; cases b; simp_all

/-- What an operation looks at it finds as it lies behind the whole region. -/
theorem Slots.looks {L : Nat → Nat → Bool} {n : Nat} (hf : Fair L ops n) {V : Nat → Value} {a0 a b : Act} {l : Nat → Bool} (h : Slots ops V a0 l a) (h' : Slots ops V a0 (fun j => decide (j < ops.size)) b) {i : Nat} {o : Oper} (ho : ops[i]? = some o)
    (hl : ∀ e ∈ o.after, Region.binds .any e = true → l e.on = true) (hL : ∀ j d, L i j = true → dstOf ops j = some d → l j = false ∧ a0.tmps[d]? = some (V j)) (d : Tmp) (hd : d ∈ o.looksAt ops) : a.tmps[d]? = b.tmps[d]? := by
  by_cases e : ∃ j, dstOf ops j = some d
  · obtain ⟨j, hj⟩ := e
    rcases hf.looks i o ho j d hj hd with ⟨e, he, hb, rfl⟩ | hlj
    · rw [h.set _ d hj (hl e he hb), h'.set _ d hj (by simpa using dstOf_lt hj)]
    · obtain ⟨h1, h2⟩ := hL j d hlj hj
      rw [h.old d (fun k hk => by rw [hf.one j k d hj hk]; exact h1), h'.set _ d hj (by simpa using dstOf_lt hj)]
      exact h2
  · rw [h.old d fun j hj => absurd ⟨j, hj⟩ e, h'.old d fun j hj => absurd ⟨j, hj⟩ e]

theorem Slots.exec {L : Nat → Nat → Bool} {n : Nat} (hf : Fair L ops n) {V : Nat → Value} {a0 a b : Act} {l : Nat → Bool} (h : Slots ops V a0 l a) (h' : Slots ops V a0 (fun j => decide (j < ops.size)) b) {i : Nat} {o : Oper} (ho : ops[i]? = some o)
    (hl : ∀ e ∈ o.after, Region.binds .any e = true → l e.on = true) (hL : ∀ j d, L i j = true → dstOf ops j = some d → l j = false ∧ a0.tmps[d]? = some (V j)) : execOp a.eval o = execOp b.eval o :=
  execOp_congr o (hf.sel i o ho) fun x hx => by
    cases x with
    | tmp t =>
      have := h.looks hf h' ho hl hL t (List.mem_append_left _ (List.mem_filterMap.2 ⟨.tmp t, by simpa using hx, rfl⟩))
      simp [Act.eval, this]
    | const v => rfl
    | global g => rfl
    | func f => rfl

theorem Slots.wanted {L : Nat → Nat → Bool} {n : Nat} (hf : Fair L ops n) {V : Nat → Value} {a0 a b : Act} {l : Nat → Bool} (h : Slots ops V a0 l a) (h' : Slots ops V a0 (fun j => decide (j < ops.size)) b) {i : Nat} {o : Oper} (ho : ops[i]? = some o)
    (hl : ∀ e ∈ o.after, Region.binds .any e = true → l e.on = true) (hL : ∀ j d, L i j = true → dstOf ops j = some d → l j = false ∧ a0.tmps[d]? = some (V j)) : Region.wanted o (yielded ops a.tmps) = Region.wanted o (yielded ops b.tmps) := by
  unfold Region.wanted
  cases hg : o.guard with
  | none => rfl
  | some gw =>
    obtain ⟨g, want⟩ := gw
    have hy : yielded ops a.tmps g = yielded ops b.tmps g := by
      unfold yielded
      cases ht : (ops[g]?).bind (·.dst) with
      | none => rfl
      | some t =>
        have := h.looks hf h' ho hl hL t (by simp [Oper.looksAt, hg, ht])
        simp [this]
    simp only [hy]

theorem NoWay.letsOut {x : Prop} (h : LetsOut NoWay) : x := by obtain ⟨_, _, h⟩ := h; exact h.elim

/-- The step from the frame behind the whole region to the frame at hand. -/
theorem wp_carry {Q : Exit → Act → World → Prop} {o : Oper} {a b : Act} {w : World} {K : Act → World → Prop} (he : execOp a.eval o = execOp b.eval o)
    (h : o.wp P b w (fun a' w' => ∃ v, a' = b.put o.dst v ∧ K (a.put o.dst v) w' ) NoWay) (hinj : ∀ v u, b.put o.dst v = b.put o.dst u → a.put o.dst v = a.put o.dst u) : o.wp P a w K Q := by
  unfold Oper.wp at *
  rw [he]
  generalize (execOp b.eval o).run P w = r at *
  cases r with
  | ok n w' =>
    cases n <;> simp only [Oper.upon] at h ⊢
    case value v =>
      obtain ⟨u, hu, hk⟩ := h
      rw [hinj v u hu]; exact hk
    case skip =>
      obtain ⟨u, hu, hk⟩ := h
      rw [hinj undef u hu]; exact hk
    case defer d =>
      obtain ⟨u, hu, _⟩ := h
      have := congrArg Act.defers hu
      cases hd : o.dst <;> simp [Act.put, hd] at this
    case enter f args =>
      refine Calls.mono h fun e w'' hh => ?_
      cases e with
      | returned v =>
        obtain ⟨u, hu, hk⟩ := hh
        show K (a.put o.dst v) w''
        rw [hinj v u hu]; exact hk
      | panicked c => exact hh.elim
      | outgrown => exact NoWay.letsOut hh
    case row row args =>
      refine Rows.mono h fun v w'' hh => ?_
      obtain ⟨u, hu, hk⟩ := hh
      rw [hinj v u hu]; exact hk
  | halt x w' => cases x <;> simp only [Oper.upon] at h ⊢; exact h.elim

theorem put_inj {n : Nat} {a b : Act} {d : Option Tmp} (_ha : a.tmps.size = n) (hb : b.tmps.size = n) (hd : ∀ x, d = some x → x < n) (v u : Value) (h : b.put d v = b.put d u) : a.put d v = a.put d u := by
  cases d with
  | none => rfl
  | some x =>
    have hx := hd x rfl
    have := congrArg (fun c : Act => c.tmps[x]?) h
    simp [Act.put, hb, hx] at this
    rw [this]

theorem getD_set (listed : Array Bool) (i j : Nat) (hi : i < listed.size) : (listed.setIfInBounds i true).getD j false = (j == i || listed.getD j false) := by
  by_cases e : i = j
  · subst e; simp [hi]
  · have e' : ¬ j = i := fun h => e h.symm
    simp [Array.getElem?_setIfInBounds_ne e, e']

theorem all_listed {L : Nat → Nat → Bool} {n : Nat} (hf : Fair L ops n) {listed : Array Bool} (hs : listed.size = ops.size) (hr : Region.ready .any ops listed = []) : ∀ j, j < ops.size → listed.getD j false = true := by
  intro j
  induction j using Nat.strongRecOn with
  | _ j ih =>
    intro hj
    cases hl : listed.getD j false with
    | true => rfl
    | false =>
      obtain ⟨o, ho⟩ : ∃ o, ops[j]? = some o := ⟨_, Array.getElem?_eq_getElem hj⟩
      have : j ∈ Region.ready .any ops listed := mem_ready.2 ⟨getD_in (by omega) hl, o, ho, fun e he hb => by
        have hlt := hf.back j o ho e he hb
        exact ih e.on hlt (by omega)⟩
      rw [hr] at this
      cases this

/-- What has come up has come up behind what it waits for. -/
def ClosedL (ops : Array Oper) (l : Nat → Bool) : Prop := ∀ (i : Nat) (o : Oper), ops[i]? = some o → l i = true → ∀ e ∈ o.after, Region.binds .any e = true → l e.on = true
/-- The region, operation by operation. V: what each operation yields; R: the condition on the world; both may hang on a state that the operations choose (where new memory lies). -/
theorem wp_region_late {σ : Type} {id : Nat} {a0 : Act} {w : World} {Q : Exit → Act → World → Prop} (V : σ → Nat → Value) (R : σ → (Nat → Bool) → World → Prop) (aT : σ → Act)
    (hm : P.follows .mixedOrders = true) (L : Nat → Nat → Bool) (hB : regionL L ops a0.tmps.size = true) (hT : ∀ s, aT s = putTo ops (V s) a0 ops.size) (s0 : σ) (h0 : R s0 (fun _ => false) w.drew)
    (hcon : ∀ l, ClosedL ops l → ∀ i j, L i j = true → l j = true → l i = true) (hlate : ∀ s l wx, R s l wx → ∀ i j d, L i j = true → dstOf ops j = some d → l j = false → a0.tmps[d]? = some (V s j))
    (step : ∀ (i : Nat) (o : Oper), ops[i]? = some o → ∀ (s : σ) (l : Nat → Bool) (wx : World), R s l wx → l i = false → (∀ e ∈ o.after, Region.binds .any e = true → l e.on = true) →
      ∀ K : Act → World → Prop, (∀ (s' : σ) (w' : World), (∀ j, l j = true → V s' j = V s j) → R s' (fun j => j == i || l j) w' → K ((aT s).put o.dst (V s' i)) w') →
        if Region.wanted o (yielded ops (aT s).tmps) then o.wp P (aT s) wx K NoWay else K ((aT s).put o.dst undef) wx)
    (fin : ∀ (s : σ) (l : Nat → Bool) (wx : World), (∀ j, j < ops.size → l j = true) → R s l wx → Q .normal (aT s) wx) : (Code.region id ops true).wp P Q a0 w := by
  have hf := Fair.of hB
  refine wp_region_any hm ?_
  have main : ∀ (fuel : Nat) (listed : Array Bool) (a : Act) (wx : World) (s : σ), listed.size = ops.size → listed.toList.count false ≤ fuel → Slots ops (V s) a0 (fun j => listed.getD j false) a → ClosedL ops (fun j => listed.getD j false) → R s (fun j => listed.getD j false) wx →
      wpAny P .any ops Q fuel listed a wx := by
    intro fuel
    have done : ∀ (listed : Array Bool) (a : Act) (wx : World) (s : σ), listed.size = ops.size → Slots ops (V s) a0 (fun j => listed.getD j false) a → R s (fun j => listed.getD j false) wx → Region.ready .any ops listed = [] → Q .normal a wx := by
      intro listed a wx s hs hS hR hr
      have hl := all_listed hf hs hr
      have := hS.same (Slots.putTo hf (V s) a0 rfl ops.size) hl (fun j hj => by simpa using hj)
      rw [this, ← hT]
      exact fin s _ wx hl hR
    induction fuel with
    | zero =>
      intro listed a wx s hs hc hS hCl hR
      have hr : Region.ready .any ops listed = [] := by
        cases hr : Region.ready .any ops listed with
        | nil => rfl
        | cons i is =>
          have hi : i ∈ Region.ready .any ops listed := by rw [hr]; exact List.mem_cons_self
          obtain ⟨h1, o, ho, _⟩ := mem_ready.1 hi
          have hlt := (Array.getElem?_eq_some_iff.1 ho).1
          have : false ∈ listed.toList := by
            have hlt' : i < listed.size := by omega
            have h2 : listed[i] = false := by simpa [hlt'] using h1
            rw [← h2]
            exact List.mem_of_getElem (i := i) (h := by simpa using hlt') (by simp)
          have := List.count_pos_iff.2 this
          omega
      exact ⟨hr, done listed a wx s hs hS hR hr⟩
    | succ fuel ih =>
      intro listed a wx s hs hc hS hCl hR
      refine ⟨done listed a wx s hs hS hR, fun i hi => ?_⟩
      obtain ⟨h1, o, ho, hedge⟩ := mem_ready.1 hi
      have hlt := (Array.getElem?_eq_some_iff.1 ho).1
      have hlt' : i < listed.size := by omega
      have h1' := getD_both h1
      have hTs := Slots.putTo hf (V s) a0 rfl ops.size
      rw [← hT] at hTs
      have hd : ∀ x, o.dst = some x → x < a0.tmps.size := fun x hx => hf.lt i x ((dstOf_of ho).trans hx)
      have hcount : (listed.setIfInBounds i true).toList.count false ≤ fuel := by
        have h2 : listed[i] = false := by simpa [hlt'] using h1
        have : listed.toList.count false = (listed.setIfInBounds i true).toList.count false + 1 := by
          rw [Array.toList_setIfInBounds, List.count_set (by simpa using hlt')]
          have hp : 0 < listed.toList.count false := List.count_pos_iff.2 (by
            rw [← h2]
            exact List.mem_of_getElem (i := i) (h := by simpa using hlt') (by simp))
          rw [Array.count_toList] at hp
          simp [h2]
          omega
        omega
      have next : ∀ (s' : σ) (w' : World), (∀ j, listed.getD j false = true → V s' j = V s j) → R s' (fun j => j == i || listed.getD j false) w' →
          wpAny P .any ops Q fuel (listed.setIfInBounds i true) (a.put o.dst (V s' i)) w' := by
        intro s' w' hV hR'
        have e : (fun j => (listed.setIfInBounds i true).getD j false) = (fun j => j == i || listed.getD j false) := funext fun j => getD_set listed i j hlt'
        refine ih _ _ w' s' (by simpa using hs) hcount ?_ ?_ (by rw [e]; exact hR')
        rotate_left
        · rw [e]
          intro k ok hok hk e2 he2 hb2
          simp only [Bool.or_eq_true, beq_iff_eq] at hk ⊢
          rcases hk with rfl | hk
          · obtain rfl : o = ok := Option.some.inj (ho.symm.trans hok)
            exact .inr (hedge e2 he2 hb2)
          · exact .inr (hCl k ok hok hk e2 he2 hb2)
        have := Slots.put hf hS rfl i (fun j => getD_set listed i j hlt') h1' hV
        rw [dstOf_of ho] at this
        exact this
      have st := step i o ho s _ wx hR h1' (fun e he hb => hedge e he hb)
      have hL : ∀ j d, L i j = true → dstOf ops j = some d → listed.getD j false = false ∧ a0.tmps[d]? = some (V s j) := by
        intro j d hlj hdj
        have hj : listed.getD j false = false := by
          cases hx : listed.getD j false with
          | false => rfl
          | true => have := hcon _ hCl i j hlj hx; rw [h1'] at this; cases this
        exact ⟨hj, hlate s _ wx hR i j d hlj hdj hj⟩
      unfold wpOp
      simp only [ho]
      rw [Slots.wanted hf hS hTs ho (fun e he hb => hedge e he hb) hL]
      have hsz : (aT s).tmps.size = a0.tmps.size := hTs.size
      by_cases hw : Region.wanted o (yielded ops (aT s).tmps) = true
      · simp only [hw, if_true] at st ⊢
        refine .inl (wp_carry (Slots.exec hf hS hTs ho (fun e he hb => hedge e he hb) hL) (st _ ?_) (put_inj hS.size hsz hd))
        intro s' w' hV hR'
        exact ⟨V s' i, rfl, next s' w' hV hR'⟩
      · simp only [hw, if_false, Bool.false_eq_true] at st ⊢
        have := st (fun a' w' => ∃ v, a' = (aT s).put o.dst v ∧ wpAny P .any ops Q fuel (listed.setIfInBounds i true) (a.put o.dst v) w') (fun s' w' hV hR' => ⟨V s' i, rfl, next s' w' hV hR'⟩)
        obtain ⟨v, hv, hk⟩ := this
        rw [put_inj hS.size hsz hd undef v hv]
        exact hk
  refine main ops.size _ a0 _ s0 (by simp) (by simp) ?_ ?_ ?_
  rotate_left
  · have e : (fun j => (Array.replicate ops.size false).getD j false) = fun _ => false := funext fun j => getD_replicate_false _ _
    rw [e]
    intro k ok hok hk
    cases hk
  rotate_left
  · have e : (fun j => (Array.replicate ops.size false).getD j false) = fun _ => false := funext fun j => getD_replicate_false _ _
    rw [e]
    exact Slots.start _ _
  · have e : (fun j => (Array.replicate ops.size false).getD j false) = fun _ => false := funext fun j => getD_replicate_false _ _
    rw [e]
    exact h0
theorem wp_region_by {σ : Type} {id : Nat} {a0 : Act} {w : World} {Q : Exit → Act → World → Prop} (V : σ → Nat → Value) (R : σ → (Nat → Bool) → World → Prop) {aT : σ → Act}
    (hm : P.follows .mixedOrders = true) (hB : regionB ops a0.tmps.size = true) (hT : ∀ s, putTo ops (V s) a0 ops.size = aT s) (s0 : σ) (h0 : R s0 (fun _ => false) w.drew)
    (step : ∀ (i : Nat) (o : Oper), ops[i]? = some o → ∀ (s : σ) (l : Nat → Bool) (wx : World), R s l wx → l i = false → (∀ e ∈ o.after, Region.binds .any e = true → l e.on = true) →
      ∀ K : Act → World → Prop, (∀ (s' : σ) (w' : World), (∀ j, l j = true → V s' j = V s j) → R s' (fun j => j == i || l j) w' → K ((aT s).put o.dst (V s' i)) w') →
        if Region.wanted o (yielded ops (aT s).tmps) then o.wp P (aT s) wx K NoWay else K ((aT s).put o.dst undef) wx)
    (fin : ∀ (s : σ) (l : Nat → Bool) (wx : World), (∀ j, j < ops.size → l j = true) → R s l wx → Q .normal (aT s) wx) : (Code.region id ops true).wp P Q a0 w :=
  wp_region_late V R aT hm (fun _ _ => false) hB (fun s => (hT s).symm) s0 h0 (fun _ _ _ _ h => by cases h) (fun _ _ _ _ _ _ _ h => by cases h) step fin
/-- A whole row read out of memory, by an operation of such a region. -/
theorem region_load_row {o : Oper} {a : Act} {w : World} {K : Act → World → Prop} {Q : Exit → Act → World → Prop} (hw : Region.wanted o (yielded ops a.tmps) = true) (ty : TypeId) (x : Operand) (ho : o.op = .load ty x)
    (g : Nat) (hx : a.eval x = .pointer (some ⟨g, 0, none⟩)) (t : TypeId) (cs : Array Value) (fr : Nat × Nat) (d : TypeDesc) (hg : w.heap[g]? = some (.cells cs t fr))
    (hu : P.underlying ty = some d) (hd : (match d with | .struct _ | .array _ _ => true | _ => false) = true) (hi : (P.info? ty).map (·.size) = some cs.size)
    (h : K (a.put o.dst (.agg cs)) w) : if Region.wanted o (yielded ops a.tmps) then o.wp P a w K Q else K (a.put o.dst undef) w := by
  rw [if_pos hw]
  exact wp_load_row ty x ho g hx t cs fr d hg hu hd hi h
end
end Go.Proofs.Ytkjimgidlpocbaa

namespace Go.Proofs.Ytkjimgidlpocbaa
open Go.RowKit

theorem open_u8 {H : Type} {enc : TypeId × Value → H} {W : World} {v : Value} {d : DataW H} {p : List MemPlace} {base : Nat} (hv : Value.okWide Try.prog W .any base 89 v) (h : DataW.Trod enc Try.prog W 0 (fun _ => true) true 89 v d p) :
    ∃ ao L cap, v = .slice ao L.length cap ∧ ReadN .u8 W ao L ∧ L.length ≤ cap ∧ cap ≤ maxLen ∧ (ao = none → cap = 0) ∧ ∀ x ∈ L, x < 256 := open_nums (k := .u8) rfl Try.underlying89 Try.underlying5 (by kernel_rfl) hv h
theorem append_u8 {w W : World} {ops : Array Oper} {rest : List Oper} {o : Oper} {a : Act} {Q : Exit → Act → World → Prop} (hgd : o.guard = none) (s x : Operand) (hop : o.op = .call { callee := .builtin .append, args := #[s, x], argTypes := #[89, 89] })
    (v : Value) (A B : List Nat) (hs : a.eval s = v) (hlow : Below W.heap.size W w) (hown : OwnN 5 .u8 w W.heap.size v A) (oa : Option Addr) (c n : Nat) (hn : B.length = n) (hx : a.eval x = .slice oa n c) (hB : ReadN .u8 w oa B) (h0 : oa = none → c = 0) (hc : n ≤ c) (hl : A.length + n ≤ 1000000)
    (h : ∀ v' w', OwnN 5 .u8 w' W.heap.size v' (A ++ B) ∧ Below W.heap.size W w' → w.grownBy w' v.ownBlock → wpList Try.prog ops Q rest (a.put o.dst v') w') : wpList Try.prog ops Q (o :: rest) a w := by
  obtain ⟨i0, hi, hz0, hz1, hz2⟩ := info_parts info_u8
  exact append_nums hgd s x 89 5 .u8 i0 _ 1 hop Try.underlying89 hi hz0 hz1 hz2 rfl (by decide) v A B hs hlow hown oa c n hn hx hB h0 hc hl h
theorem size_u8 : (Try.prog.info? 5).map (·.size) = some 1 := by kernel_rfl
theorem made_u8 (n : Nat) : madeCells (Value.cells (.int .u8 0)) n = (numC .u8 (List.replicate n 0)).toArray := by
  apply Array.ext
  · simp [madeCells, numC, Value.cells]
  · intro i h1 h2
    simp [madeCells, Value.cells, numC]
    try simp [Nat.mod_one]
theorem make_u8 (n : Nat) (h2 : n ≤ 1000000) (w : World) : (Instr.makeSlice 89 (.int .i64 n) (.int .i64 n)).run Try.prog w = .ok (.slice (some ⟨w.heap.size, 0, none⟩) n n) (w.alloc (.cells (numC .u8 (List.replicate n 0)).toArray 5)) := by
  obtain ⟨i0, hi, hz0, hz1, hz2⟩ := info_parts info_u8
  have := run_make (P := Try.prog) w 89 5 i0 _ Try.underlying89 hi hz0 .i64 .i64 n n (by omega) (by omega) (by rw [hz2]; omega) (by omega)
  rw [this, hz1, made_u8]
  simp

end Go.Proofs.Ytkjimgidlpocbaa

namespace Go.Proofs.Ytkjimgidlpocbaa
open Go.RowKit

set_option maxRecDepth 100000 in
set_option maxHeartbeats 1000000 in
theorem same32_at (w : World) (oa ob : Option Addr) (ca cb na nb : Nat) (A B : List Nat) (ea : A.length = na) (eb : B.length = nb) (ha : ReadN .u32 w oa A) (hb : ReadN .u32 w ob B) (hn : na ≤ 1000000) :
    Calls Try.prog 16 #[.slice oa na ca, .slice ob nb cb] w fun e w' => e = .returned (.bool (decide (A = B))) ∧ Below w.heap.size w w' := by
  subst ea eb
  have HA := Lib.hid ha
  have HB := Lib.hid hb
  clear ha hb
  by_cases hl : A.length = B.length
  · have hI : (A.length : Int) = (B.length : Int) := by omega
    have HL := Lib.hid hl
    clear hl
    go_enter Try.func16, Try.ntmps16
    go_wp2_with fail
    go_loopw [13] (fun iv wr => ∃ i : Nat, i ≤ A.length ∧ iv = .int .i64 i ∧ Hid (A.take i = B.take i) ∧ ∃ m, wr = w.drewN m) (fun i _ => A.length - (intOf i).toNat)
    case atStart => exact ⟨0, by omega, rfl, Lib.hid rfl, 0, rfl⟩
    case round =>
      obtain ⟨i, hi, rfl, HT, m, rfl⟩ := hrel
      by_cases hlt : i < A.length
      · obtain ⟨x, hx⟩ : ∃ x, A[i]? = some x := ⟨_, List.getElem?_eq_getElem hlt⟩
        obtain ⟨y, hy⟩ : ∃ y, B[i]? = some y := ⟨_, List.getElem?_eq_getElem (by have := HL.out; omega)⟩
        obtain ⟨gx, ox, rfl, cx⟩ := HA.out i x hx
        obtain ⟨gy, oy, rfl, cy⟩ := HB.out i y hy
        have hlt1 : (i : Int) < (A.length : Int) := by omega
        have hlt2 : (i : Int) < (B.length : Int) := by omega
        have HX := Lib.hid (And.intro hx hy)
        clear hx hy
        by_cases hxy : x = y
        · subst hxy
          have hd : ((x : Int) != (x : Int)) = false := by simp
          go_wp2_with fail
          go_quiet (fail)
          go_wp2_with fail
          go_roundw
          case rel => exact ⟨i + 1, by omega, by go_num, Lib.hid (by rw [List.take_add_one, List.take_add_one, HX.out.1, HX.out.2, HT.out]), _, rfl⟩
          case measure => simp [intOf]; omega
        · have hd : ((x : Int) != (y : Int)) = true := bne_iff_ne.2 (by omega)
          go_wp2_with fail
          go_quiet (fail)
          go_wp2_with fail
          go_ret
          have : A ≠ B := fun e => hxy (by have := HX.out.1; rw [e, HX.out.2] at this; simpa using this.symm)
          exact ⟨by simp [this], below_drawn (below_drawn (Below.refl _ _) _) _⟩
      · go_wp2_with fail
        go_ret
        have : A = B := by
          have := HT.out
          rwa [List.take_of_length_le (by omega), List.take_of_length_le (by have := HL.out; omega)] at this
        exact ⟨by simp [this], below_drawn (Below.refl _ _) _⟩
  · have hI : (A.length : Int) ≠ (B.length : Int) := by omega
    have : A ≠ B := fun e => hl (by rw [e])
    have HD := Lib.hid this
    clear hl this
    go_enter Try.func16, Try.ntmps16
    go_wp2_with fail
    go_ret
    exact ⟨by simp [HD.out], Below.refl _ _⟩

theorem info_u32 : (Try.prog.info? 52).map (fun i => (i.zero, i.size, i.bytes)) = some (some (.int .u32 0), 1, 4) := by kernel_rfl
theorem open_u32 {H : Type} {enc : TypeId × Value → H} {W : World} {v : Value} {d : DataW H} {p : List MemPlace} {base : Nat} (hv : Value.okWide Try.prog W .any base 26 v) (h : DataW.Trod enc Try.prog W 0 (fun _ => true) true 26 v d p) :
    ∃ ao L cap, v = .slice ao L.length cap ∧ ReadN .u32 W ao L ∧ L.length ≤ cap ∧ cap ≤ maxLen ∧ (ao = none → cap = 0) ∧ ∀ x ∈ L, x < 4294967296 := open_nums (k := .u32) rfl Try.underlying26 Try.underlying52 (by kernel_rfl) hv h
theorem append_u32 {w W : World} {ops : Array Oper} {rest : List Oper} {o : Oper} {a : Act} {Q : Exit → Act → World → Prop} (hgd : o.guard = none) (s x : Operand) (hop : o.op = .call { callee := .builtin .append, args := #[s, x], argTypes := #[26, 26] })
    (v : Value) (A B : List Nat) (hs : a.eval s = v) (hlow : Below W.heap.size W w) (hown : OwnN 52 .u32 w W.heap.size v A) (oa : Option Addr) (c n : Nat) (hn : B.length = n) (hx : a.eval x = .slice oa n c) (hB : ReadN .u32 w oa B) (h0 : oa = none → c = 0) (hc : n ≤ c) (hl : A.length + n ≤ 1000000)
    (h : ∀ v' w', OwnN 52 .u32 w' W.heap.size v' (A ++ B) ∧ Below W.heap.size W w' → w.grownBy w' v.ownBlock → wpList Try.prog ops Q rest (a.put o.dst v') w') : wpList Try.prog ops Q (o :: rest) a w := by
  obtain ⟨i0, hi, hz0, hz1, hz2⟩ := info_parts info_u32
  exact append_nums hgd s x 26 52 .u32 i0 _ 4 hop Try.underlying26 hi hz0 hz1 hz2 rfl (by decide) v A B hs hlow hown oa c n hn hx hB h0 hc hl h
theorem size_u32 : (Try.prog.info? 52).map (·.size) = some 1 := by kernel_rfl
theorem made_u32 (n : Nat) : madeCells (Value.cells (.int .u32 0)) n = (numC .u32 (List.replicate n 0)).toArray := by
  apply Array.ext
  · simp [madeCells, numC, Value.cells]
  · intro i h1 h2
    simp [madeCells, Value.cells, numC]
    try simp [Nat.mod_one]
theorem make_u32 (n : Nat) (h2 : n ≤ 1000000) (w : World) : (Instr.makeSlice 26 (.int .i64 n) (.int .i64 n)).run Try.prog w = .ok (.slice (some ⟨w.heap.size, 0, none⟩) n n) (w.alloc (.cells (numC .u32 (List.replicate n 0)).toArray 52)) := by
  obtain ⟨i0, hi, hz0, hz1, hz2⟩ := info_parts info_u32
  have := run_make (P := Try.prog) w 26 52 i0 _ Try.underlying26 hi hz0 .i64 .i64 n n (by omega) (by omega) (by rw [hz2]; omega) (by omega)
  rw [this, hz1, made_u32]
  simp

end Go.Proofs.Ytkjimgidlpocbaa

namespace Go.Proofs.Ytkjimgidlpocbaa
open Go.RowKit

set_option maxRecDepth 100000 in
set_option maxHeartbeats 2000000 in
theorem ref_put (W : World) (n : Nat) (hn : n < 4294967296) : Calls Try.prog 59 #[.int .u32 (n : Int)] W fun e w' => ∃ v, e = .returned v ∧ OwnN 5 .u8 w' W.heap.size v (putN n) ∧ Below W.heap.size W w' := by
  obtain ⟨i0, hi, hz0, hz1, hz2⟩ := info_parts info_u8
  have HI := Lib.hid (And.intro hi (And.intro hz0 (And.intro hz1 hz2)))
  clear hi hz0 hz1 hz2
  go_enter Try.func59, Try.ntmps59
  go_wp2_with fail
  go_loopw [0, 3] (fun nv v wr => ∃ (f m : Nat) (M : List Nat), nv = .int .u32 (m : Int) ∧ Hid (f ≤ 4 ∧ m < lim f ∧ M.length ≤ 4 - f ∧ M ++ putF f m = putN n) ∧ m < 4294967296 ∧ OwnN 5 .u8 wr W.heap.size v M ∧ Below W.heap.size W wr) (fun nv _ _ => (intOf nv).toNat)
  case atStart => exact ⟨4, n, [], rfl, Lib.hid ⟨Nat.le_refl _, hn, by simp, rfl⟩, hn, OwnN.new _ _ W _ (Nat.le_refl _), below_one⟩
  case round =>
    obtain ⟨f, m, M, rfl, HR, hm, hown, hlow⟩ := hrel
    have HO := Lib.hid hown
    have HW := Lib.hid hlow
    clear hown hlow
    by_cases hlt : 127 < m
    · have hlt1 : (127 : Int) < (m : Int) := by omega
      have hf : ∃ g, f = g + 1 := by
        obtain ⟨_, h2, _⟩ := HR.out
        cases f with
        | zero => simp only [lim] at h2; omega
        | succ g => exact ⟨g, rfl⟩
      obtain ⟨g, rfl⟩ := hf
      obtain ⟨r0, hr0⟩ : ∃ r0, r0 = m % 128 := ⟨_, rfl⟩
      obtain ⟨r, hr⟩ : ∃ r, r = r0 + 128 := ⟨_, rfl⟩
      obtain ⟨q, hq⟩ : ∃ q, q = m / 128 := ⟨_, rfl⟩
      have HN := Lib.hid (show g ≤ 4 ∧ q < lim g ∧ (M ++ [r]).length ≤ 4 - g ∧ (M ++ [r]) ++ putF g q = putN n from by
        obtain ⟨h1, h2, h3, h4⟩ := HR.out
        simp only [lim] at h2
        refine ⟨by omega, by omega, by simp; omega, ?_⟩
        rw [← h4]
        conv => rhs; unfold putF
        rw [if_neg (by omega), hr, hr0, hq]
        simp)
      have HLen := Lib.hid (show M.length ≤ 4 from by have := HR.out; omega)
      have hy0 : (0 : Int) ≤ (m : Int) := by omega
      have hr1 : (m : Int) % 128 = (r0 : Int) := by omega
      have hq1 : (m : Int) / 128 = (q : Int) := by omega
      have hr2 : (m : Int).tmod 128 = (r0 : Int) := by rw [Int.tmod_eq_emod_of_nonneg hy0]; exact hr1
      have hq2 : (m : Int).tdiv 128 = (q : Int) := by rw [Int.tdiv_eq_ediv_of_nonneg hy0]; exact hq1
      have hr3 : IntKind.u32.wrap (r0 : Int) = (r0 : Int) := IntWalk.u32_in _ (by omega)
      have hr5 : (r0 : Int) + 128 = (r : Int) := by omega
      have hr4 : IntKind.u32.wrap (r : Int) = (r : Int) := IntWalk.u32_in _ (by omega)
      have hr6 : IntKind.u8.wrap (r : Int) = (r : Int) := IntWalk.u8_in _ (by omega)
      have hq4 : IntKind.u32.wrap (q : Int) = (q : Int) := IntWalk.u32_in _ (by omega)
      have hqm : q < m := by omega
      clear hr hr0 hq
      go_wp2_with (at_builtin; refine wpList_append_own _ rfl (.tmp 7) (.tmp 12) 89 rfl W.heap.size 5 i0 _ 1 1 Try.underlying89 HI.out.1 HI.out.2.1 HI.out.2.2.1 HI.out.2.2.2 rfl (by decide) _ M.length (numC .u8 M) rfl (World.ownsRow.alloc HO.out _) ⟨_, 0, none⟩ 1 1 [.int .u8 r] rfl rfl one_cell (by simp [Value.oneCell']) (by have := HLen.out; unfold maxLen; omega) (by have := HLen.out; omega) (by have := HW.out.size; simp; omega) ?_; intro v' w5 ho hg _; have HO5 := Lib.hid (OwnN.more (m := [r]) HW.out HO.out ho hg); clear ho hg)
      go_roundw
      case rel => exact ⟨g, q, M ++ [r], rfl, HN, by omega, HO5.out.1, HO5.out.2⟩
      case measure => simp [intOf]; omega
    · have hlt1 : ¬ (127 : Int) < (m : Int) := by omega
      have hr3 : IntKind.u8.wrap (m : Int) = (m : Int) := IntWalk.u8_in _ (by omega)
      have HN := Lib.hid (show M ++ [m] = putN n from by
        obtain ⟨h1, h2, h3, h4⟩ := HR.out
        rw [← h4]
        cases f with
        | zero => rfl
        | succ f => unfold putF; rw [if_pos (by omega)])
      have HLen := Lib.hid (show M.length ≤ 4 from by have := HR.out; omega)
      go_wp2_with (at_builtin; refine wpList_append_own _ rfl (.tmp 16) (.tmp 19) 89 rfl W.heap.size 5 i0 _ 1 1 Try.underlying89 HI.out.1 HI.out.2.1 HI.out.2.2.1 HI.out.2.2.2 rfl (by decide) _ M.length (numC .u8 M) rfl (World.ownsRow.alloc HO.out _) ⟨_, 0, none⟩ 1 1 [.int .u8 m] rfl rfl one_cell (by simp [Value.oneCell']) (by have := HLen.out; unfold maxLen; omega) (by have := HLen.out; omega) (by have := HW.out.size; simp; omega) ?_; intro v' w5 ho hg _; have HO5 := Lib.hid (OwnN.more (m := [m]) HW.out HO.out ho hg); clear ho hg)
      go_ret
      exact ⟨_, rfl, by rw [← HN.out]; exact HO5.out.1, HO5.out.2⟩

end Go.Proofs.Ytkjimgidlpocbaa

namespace Go.Proofs.Ytkjimgidlpocbaa
open Go.RowKit

end Go.Proofs.Ytkjimgidlpocbaa

namespace Go.Proofs.Ytkjimgidlpocbaa
open Go.RowKit

theorem ref_put_of (n : Nat) (L : List Nat) (l : Nat) (hn : n < 4294967296) (hL : putN n = L) (hl : L.length = l) (w : World) : Calls Try.prog 59 #[.int .u32 (n : Int)] w fun e w' => ∃ oa c, e = .returned (.slice oa l c) ∧ l ≤ c ∧ c ≤ maxLen ∧ (oa = none → c = 0) ∧ ReadN .u8 w' oa L ∧ Below w.heap.size w w' := by
  subst hL
  refine (ref_put w n hn).mono fun _ _ ⟨v, h1, h2, h3⟩ => ?_
  obtain ⟨oa, c, rfl, h4, h5, h6, h7⟩ := h2.reads_of l hl
  exact ⟨oa, c, h1, h4, h5, h6, h7, h3⟩
end Go.Proofs.Ytkjimgidlpocbaa

namespace Go.Proofs.Ytkjimgidlpocbaa
open Go.RowKit

/-! ### Bits behind bits -/
theorem or_more {c x k : Nat} (hc : c < 2 ^ k) (hk : k ≤ 28) (b : Nat) (hx : b * 2 ^ k = x) (hx2 : x < 4294967296) : bits .or .u32 (c : Int) (x : Int) = ((c + x : Nat) : Int) := by
  have hc2 : c < 4294967296 := Nat.lt_of_lt_of_le hc (by calc 2 ^ k ≤ 2 ^ 28 := Nat.pow_le_pow_right (by decide) hk
      _ ≤ 4294967296 := by decide)
  have h := (bits_nat .u32 32 (by decide) (fun n a b => IntWalk.u32_in n (by omega)) c x (by omega) (by omega)).2
  rw [h, ← hx, Nat.or_comm, Nat.mul_comm b, ← Nat.two_pow_add_eq_or_of_lt hc b, Nat.add_comm]
theorem shl_more (b k : Nat) (hk : k ≤ 28) (x : Nat) (hx : b * 2 ^ k = x) (hx2 : x < 4294967296) : Op.shift .shl .u32 (b : Int) .i64 (k : Int) = pure (.int .u32 (x : Int)) := by
  rw [shift_shl .u32 .i64 _ _ (by omega) (by show (k : Int) ≤ 32; omega)]
  rw [show ((k : Int)).toNat = k from rfl, show ((b : Int) * 2 ^ k) = (x : Int) by rw [← hx]; simp, IntWalk.u32_in _ (by omega)]

/-! ### All behind so many -/
theorem size_byte (w : World) : (Go.sizeOf 5).run Try.prog w = .ok 1 w := by kernel_rfl
theorem elem_bytes : Try.prog.elem 89 = 5 := by kernel_rfl
theorem under_bytes : Try.prog.underlying 89 = some (.slice (Try.prog.elem 89)) := by rw [elem_bytes]; exact Try.underlying89
theorem slice8_from {W : World} {oa : Option Addr} {L : List Nat} (n c a m : Nat) (hn : L.length = n) (ha : a + m = n) (hc : n ≤ c) (hm : c ≤ maxLen) (h : ReadN .u8 W oa L) :
    ∃ ob d, (∀ w : World, (Instr.slice 89 (.slice oa n c) (some (.int .i64 (a : Int))) none none).run Try.prog w = .ok (.slice ob m d) w) ∧ m ≤ d ∧ d ≤ maxLen ∧ ReadN .u8 W ob (L.drop a) := by
  refine ⟨if c = a then oa else oa.map (·.add a), c - a, fun w => ?_, by omega, by omega, ?_⟩
  · rw [run_slice_l w 89 oa n c under_bytes .i64 (a : Int) (by omega) (by omega), elem_bytes, size_byte]
    have e : ((a : Int)).toNat = a := by omega
    have e2 : n - a = m := by omega
    simp [Result.andThen, sliced, e, e2]
  · intro j x hj
    have hj2 : L[a + j]? = some x := by rw [List.getElem?_drop] at hj; exact hj
    have hlt := (List.getElem?_eq_some_iff.1 hj2).1
    obtain ⟨g, o, rfl, hc2⟩ := h _ x hj2
    rw [if_neg (by omega)]
    exact ⟨g, o + a, by rw [Option.map_some, Addr.add_lit], by rw [show o + a + j = o + (a + j) by omega]; exact hc2⟩

/-! ### What the bytes so far make -/
theorem valP_split : ∀ (k : Nat) (M : List Nat) (n : Nat), ConT M k → valP k M n = valP k M 0 + 128 ^ k * n
  | 0, M, n, _ => by simp [valP]
  | k + 1, [], n, h => by
    obtain ⟨x, hx, _⟩ := h 0 (by omega)
    simp at hx
  | k + 1, x :: M, n, h => by
    have ih := valP_split k M n fun j hj => by
      obtain ⟨z, hz, hz2⟩ := h (j + 1) (by omega)
      exact ⟨z, by simpa using hz, hz2⟩
    simp only [valP]
    rw [ih, Nat.pow_succ, Nat.mul_add, Nat.mul_comm (128 ^ k) 128, Nat.mul_assoc, Nat.add_assoc]
theorem valP_snoc : ∀ (k : Nat) (M : List Nat) (x n : Nat), ConT M k → M[k]? = some x → valP (k + 1) M n = valP k M (x - 128 + 128 * n)
  | 0, M, x, n, _, hx => by
    cases M with
    | nil => simp at hx
    | cons y M =>
      simp at hx
      subst hx
      simp [valP]
  | k + 1, [], x, n, h, _ => by
    obtain ⟨x, hx, _⟩ := h 0 (by omega)
    simp at hx
  | k + 1, y :: M, x, n, h, hx => by
    have ih := valP_snoc k M x n (fun j hj => by
      obtain ⟨z, hz, hz2⟩ := h (j + 1) (by omega)
      exact ⟨z, by simpa using hz, hz2⟩) (by simpa using hx)
    rw [valP, ih]
    rfl
theorem valP_below : ∀ (k : Nat) (M : List Nat), (∀ b ∈ M, b < 256) → valP k M 0 < 128 ^ k
  | 0, _, _ => by simp [valP]
  | k + 1, [], _ => by simp only [valP]; exact Nat.pow_pos (by omega)
  | k + 1, x :: M, hb => by
    have ih := valP_below k M fun b hm => hb b (by simp [hm])
    have hx := hb x (by simp)
    have e : 128 ^ (k + 1) = 128 ^ k * 128 := Nat.pow_succ ..
    simp only [valP]
    omega
theorem pow_seven (k : Nat) : 128 ^ k = 2 ^ (7 * k) := by rw [Nat.pow_mul]

end Go.Proofs.Ytkjimgidlpocbaa

namespace Go.Proofs.Ytkjimgidlpocbaa
open Go.RowKit

theorem may_split (l : List En) : MayE l ↔ l.length ≤ 64 ∧ (∀ i, i < l.length → 1 ≤ (enAt l i).2.length ∧ (enAt l i).2.length ≤ 256 ∧ riseB (-1) (enAt l i).2 = true) ∧ riseB (-1) (l.map (·.1)) = true := by
  constructor
  · intro h
    refine ⟨h.1, fun i hi => ?_, (rise_up _).2 fun k hk => (h.2 k (by simpa using hk)).1⟩
    obtain ⟨_, h1, h2, h3⟩ := h.2 i hi
    exact ⟨h1, h2, (rise_up _).2 h3⟩
  · rintro ⟨h1, h2, h3⟩
    refine ⟨h1, fun i hi => ?_⟩
    obtain ⟨h4, h5, h6⟩ := h2 i hi
    exact ⟨(rise_up _).1 h3 i (by simpa using hi), h4, h5, (rise_up _).1 h6⟩
theorem mayB_false {l : List En} (h : ¬ MayE l) : mayB l = false := decide_eq_false h

end Go.Proofs.Ytkjimgidlpocbaa

namespace Go.Proofs.Ytkjimgidlpocbaa
open Go.RowKit

def GoodP : Int → List Int → Prop
  | _, [] => True
  | a, p :: l => 0 ≤ a ∧ a ≤ p ∧ p ≤ 65535 ∧ GoodP p l
def GoodB : Int → List En → Prop
  | _, [] => True
  | a, e :: r => 0 ≤ a ∧ a ≤ e.1 ∧ e.1 ≤ 65535 ∧ e.2.length ≤ 256 ∧ GoodP 0 e.2 ∧ GoodB e.1 r
theorem grown_block {e t : TypeId} {w w' : World} {base size n : Nat} {v : Value} {xs : List Value} (h : w.ownsRow base e size v n xs) (hg : w.grownBy w' v.ownBlock) {b : Nat} {c : Array Value} (hb : w.heap[b]? = some (.cells c t (0, 0))) (ht : t ≠ e) : w'.heap[b]? = some (.cells c t (0, 0)) := by
  rw [hg.block b (lt_of_heap hb) (fun he => ?_)]
  · exact hb
  · obtain ⟨_, ⟨rfl, _⟩ | ⟨g, cap, cur, rfl, _, hg2, _⟩⟩ := h
    · simp [Value.ownBlock] at he
    · simp only [Value.ownBlock, Option.some.injEq] at he
      subst he
      rw [hb] at hg2
      injection hg2 with q
      injection q with _ q
      exact ht q
theorem block_below {w w' : World} {b : Nat} {c : Array Value} {t : TypeId} (h : w.heap[b]? = some (.cells c t (0, 0))) (hb : Below w.heap.size w w') : w'.heap[b]? = some (.cells c t (0, 0)) := (hb.block b (lt_of_heap h)).trans h
theorem drop_en {α : Type} {l : List α} {i : Nat} {x : α} (h : l[i]? = some x) : l.drop i = x :: l.drop (i + 1) := by
  obtain ⟨h1, h2⟩ := List.getElem?_eq_some_iff.1 h
  rw [List.drop_eq_getElem_cons h1, h2]

end Go.Proofs.Ytkjimgidlpocbaa

namespace Go.Proofs.Ytkjimgidlpocbaa
open Go.RowKit Go.Shelf

attribute [local go_sem] Oper.semAt_some

theorem size_ent (w : World) : (Go.sizeOf 51).run Try.prog w = .ok 2 w := by kernel_rfl
theorem elem_ents : Try.prog.elem 32 = 51 := by kernel_rfl
theorem under_ents : Try.prog.underlying 32 = some (.slice (Try.prog.elem 32)) := by rw [elem_ents]; exact Try.underlying32
theorem slice_ent_from (g o N cap i m : Nat) (hi : i < N) (hm : m = N - i) (hc : N ≤ cap) (w : World) : (Instr.slice 32 (.slice (some ⟨g, o, none⟩) N cap) (some (.int .i64 (i : Int))) none none).run Try.prog w = .ok (.slice (some ⟨g, o + i * 2, none⟩) m (cap - i)) w := by
  rw [run_slice_l w 32 (some ⟨g, o, none⟩) N cap under_ents .i64 (i : Int) (by omega) (by omega), elem_ents, size_ent]
  have e : ((i : Int)).toNat = i := by omega
  have e2 : ¬ (cap = i) := by omega
  simp [Result.andThen, sliced, e, e2, hm, Addr.add_lit]
theorem slice_ent_part (g o N cap i q j : Nat) (hq : q = i + j) (hj : 0 < j) (hc : q ≤ cap) (w : World) : (Instr.slice 32 (.slice (some ⟨g, o, none⟩) N cap) (some (.int .i64 (i : Int))) (some (.int .i64 (q : Int))) (some (.int .i64 (q : Int)))).run Try.prog w = .ok (.slice (some ⟨g, o + i * 2, none⟩) j j) w := by
  rw [run_slice_lhm w 32 (some ⟨g, o, none⟩) N cap under_ents .i64 .i64 .i64 (i : Int) (q : Int) (q : Int) (by omega) (by omega) (by omega) (by omega), elem_ents, size_ent]
  have e : ((i : Int)).toNat = i := by omega
  have e2 : ((q : Int)).toNat = q := by omega
  have e3 : ¬ (q = i) := by omega
  have e4 : q - i = j := by omega
  simp [Result.andThen, sliced, e, e2, e3, e4, Addr.add_lit]

/-- A part of a list of so many: where it begins is a multiple of four. -/
abbrev Part4 (N : Nat) := { k : Nat // 4 * k < N }
def partV (g o N k : Nat) : Value := .slice (some ⟨g, o + 4 * k * 2, none⟩) (min 4 (N - 4 * k)) (min 4 (N - 4 * k))
/-- Both boxes stand. -/
def KeepTwo (bs bn : Nat) (W W' : World) : Prop := W.heap.size ≤ W'.heap.size ∧ W'.heap[bs]? = W.heap[bs]? ∧ W'.heap[bn]? = W.heap[bn]?

theorem drew_grown (w : World) (n : Nat) : w.grownBy (w.drewN n) none := ⟨rfl, rfl, rfl, Nat.le_refl _, fun _ _ _ => rfl⟩

end Go.Proofs.Ytkjimgidlpocbaa

namespace Go.Proofs.Ytkjimgidlpocbaa
open Go.RowKit

theorem hash_walk (h b : Nat) (hh : h < 4294967296) (hb : b < 256) : (IntKind.u64.wrap (bits BinOp.xor IntKind.u64 (h : Int) (IntKind.u64.wrap (b : Int)) * 16777619)).tmod 4294967296 = ((hashStep h b : Nat) : Int) := by
  have hx : h ^^^ b < 4294967296 := Nat.xor_lt_two_pow (n := 32) hh (by omega)
  rw [IntWalk.u64_in (b : Int) (by omega), bits_xor_u64_nat h b (by omega) (by omega)]
  unfold hashStep
  generalize h ^^^ b = x at hx
  rw [IntWalk.u64_in _ (by omega), Int.tmod_eq_emod_of_nonneg (by omega)]
  omega
theorem bytes_take {s : ByteArray} {i : Nat} (h : i < s.size) : (bytesL s).take (i + 1) = (bytesL s).take i ++ [(s[i]'h).toNat] := by
  have hl : i < (bytesL s).length := by rw [bytesL_length]; exact h
  rw [List.take_add_one, List.getElem?_eq_getElem hl]
  simp [bytesL]
  rfl

theorem key_row {w : World} {base : Nat} {v : Value} {f : Int} {s : ByteArray} (h : w.ownsRow base 5 1 v (1 + s.size) ([.int .u8 f] ++ Lib.strCells s)) (h0 : 0 ≤ f) : BytesIn w base v (f.toNat :: bytesL s) := by
  unfold BytesIn
  rw [List.length_cons, bytesL_length, Nat.add_comm]
  have e : (f.toNat :: bytesL s).map (fun (b : Nat) => Value.int .u8 (b : Int)) = [.int .u8 f] ++ Lib.strCells s := by
    rw [List.map_cons, Int.toNat_of_nonneg h0]
    simp [bytesL, Lib.strCells]
  rw [e]
  exact h
theorem key_lt {f : Int} (h0 : 0 ≤ f) (h1 : f ≤ 255) (s : ByteArray) : ∀ b ∈ f.toNat :: bytesL s, b < 256 := by
  intro b hb
  rcases List.mem_cons.1 hb with rfl | hb
  · omega
  · exact bytesL_lt s b hb

end Go.Proofs.Ytkjimgidlpocbaa

namespace Go.Proofs.Ytkjimgidlpocbaa
open Go.RowKit

theorem byte_at {s : ByteArray} {i : Nat} (h : i < s.size) : (bytesL s).getD i 0 = (s[i]'h).toNat := by
  have hl : i < (bytesL s).length := by rw [bytesL_length]; exact h
  rw [List.getD_eq_getElem?_getD, List.getElem?_eq_getElem hl]
  simp [bytesL]
  rfl
theorem byte_out {s : ByteArray} {i : Nat} (h : ¬ i < s.size) : (bytesL s).getD i 0 = 0 := by
  rw [List.getD_eq_getElem?_getD, List.getElem?_eq_none (by rw [bytesL_length]; omega)]
  rfl

set_option maxRecDepth 100000 in
set_option maxHeartbeats 2000000 in
theorem ref_cells (W : World) (s : ByteArray) (hs : s.size ≤ 1000000) : Calls Try.prog 29 #[.string s] W fun e w' => ∃ v, e = .returned v ∧ OwnN 52 .u32 w' W.heap.size v (cellsN (bytesL s)) ∧ Below W.heap.size W w' := by
  obtain ⟨i0, hi, hz0, hz1, hz2⟩ := info_parts info_u32
  have HI := Lib.hid (And.intro hi (And.intro hz0 (And.intro hz1 hz2)))
  clear hi hz0 hz1 hz2
  obtain ⟨L, hL⟩ : ∃ L, L = bytesL s := ⟨_, rfl⟩
  have HLt := Lib.hid (show ∀ b ∈ L, b < 256 by rw [hL]; exact bytesL_lt s)
  have HLn := Lib.hid (show L.length = s.size by rw [hL]; exact bytesL_length s)
  have HIn := Lib.hid (show ∀ (i : Nat) (h : i < s.size), L.getD i 0 = (s[i]'h).toNat from fun i h => by rw [hL]; exact byte_at h)
  have HOut := Lib.hid (show ∀ (i : Nat), ¬ i < s.size → L.getD i 0 = 0 from fun i h => by rw [hL]; exact byte_out h)
  rw [← hL]
  clear hL
  go_enter Try.func29, Try.ntmps29
  go_wp2_with fail
  go_loopw [3, 4] (fun v iv wr => ∃ j b : Nat, Hid (b = 4 * j ∧ b ≤ s.size + 3) ∧ iv = .int .i64 (b : Int) ∧ OwnN 52 .u32 wr W.heap.size v (cellsTo L j) ∧ Below W.heap.size W wr) (fun _ iv _ => s.size + 4 - (intOf iv).toNat)
  case atStart => exact ⟨0, 0, Lib.hid ⟨rfl, by omega⟩, rfl, OwnN.new _ _ W _ (Nat.le_refl _), below_one⟩
  case round =>
    obtain ⟨j, b, HBJ, rfl, hown, hlow⟩ := hrel
    have HO := Lib.hid hown
    have HW := Lib.hid hlow
    clear hown hlow
    by_cases hlt : b < s.size
    · have hlt1 : (b : Int) < (s.size : Int) := by omega
      go_wp2_with fail
      go_loopw [5, 6] (fun nv kv wq => ∃ t : Nat, t ≤ 4 ∧ kv = .int .i64 ((t : Int) - 1) ∧ nv = .int .u32 (hornD L b (4 - t) : Nat) ∧ wq = wr) (fun _ kv _ => (intOf kv + 1).toNat)
      case atStart => exact ⟨4, by omega, rfl, rfl, rfl⟩
      case round =>
        obtain ⟨t, ht, rfl, rfl, hw⟩ := hrel
        have hw' := hw.symm
        subst hw'
        rcases t with _ | t
        · have hh := hornD_four L j
          rw [← HBJ.out.1] at hh
          obtain ⟨cv, hcv⟩ : ∃ cv, cv = hornD L b 4 := ⟨_, rfl⟩
          have HT := Lib.hid (show cellsTo L (j + 1) = cellsTo L j ++ [cv] by rw [cellsTo_snoc, hcv, hh])
          have HLen := Lib.hid (cellsTo_length L j)
          rw [← hcv]
          have e0 : (((0 : Nat) : Int) - 1) = -1 := by omega
          rw [e0]
          clear hh hcv e0
          go_wp2_with (at_builtin; refine wpList_append_own _ rfl (.tmp 34) (.tmp 36) 26 rfl W.heap.size 52 i0 _ 1 4 Try.underlying26 HI.out.1 HI.out.2.1 HI.out.2.2.1 HI.out.2.2.2 rfl (by decide) _ (cellsTo L j).length (numC .u32 (cellsTo L j)) rfl (World.ownsRow.alloc HO.out _) ⟨_, 0, none⟩ 1 1 [.int .u32 cv] rfl rfl one_cell (by simp [Value.oneCell']) (by have := HLen.out; have := HBJ.out; unfold maxLen; omega) (by have := HLen.out; have := HBJ.out; omega) (by have := HW.out.size; simp; omega) ?_; intro v' w5 ho hg _; have HO5 := Lib.hid (OwnN.more (m := [cv]) HW.out HO.out ho hg); clear ho hg)
          go_roundw
          case rel =>
            refine ⟨j + 1, b + 4, Lib.hid ⟨by have := HBJ.out; omega, by omega⟩, by go_num, ?_, HO5.out.2⟩
            rw [HT.out]; exact HO5.out.1
          case measure => simp [intOf]; omega
        · have e0 : (((t + 1 : Nat) : Int) - 1) = (t : Int) := by omega
          rw [e0]
          have hm := hornD_bound HLt.out b (4 - (t + 1)) (by omega)
          have hstep : hornD L b (4 - t) = 256 * hornD L b (4 - (t + 1)) + L.getD (b + t) 0 := by
            have e1 : 4 - t = (4 - (t + 1)) + 1 := by omega
            rw [e1]
            show 256 * hornD L b (4 - (t + 1)) + L.getD (b + (3 - (4 - (t + 1)))) 0 = _
            have e2 : 3 - (4 - (t + 1)) = t := by omega
            rw [e2]
          obtain ⟨p, hp⟩ : ∃ p, p = b + t := ⟨_, rfl⟩
          rw [← hp] at hstep
          have hs1 : (b : Int) + (t : Int) = (p : Int) := by omega
          have hs2 : IntKind.i64.wrap ((b : Int) + (t : Int)) = (p : Int) := by rw [hs1]; exact IntWalk.i64_in _ (by omega)
          have ht4 : t ≤ 3 := by omega
          generalize hornD L b (4 - (t + 1)) = h at hm hstep
          obtain ⟨h2, hh2⟩ : ∃ h2, h2 = 256 * h := ⟨_, rfl⟩
          have hw1 : IntKind.u32.wrap ((h : Int) * 256) = (h2 : Int) := by rw [IntWalk.u32_in _ (by omega)]; omega
          have HST := Lib.hid hstep
          have HH2 := Lib.hid hh2
          have hb2 : h2 ≤ 4294967040 := by omega
          have HP := Lib.hid hp
          clear hstep hh2 hm e0 hp
          by_cases hin : p < s.size
          · have hin1 : (p : Int) < (s.size : Int) := by omega
            have hb := (s[p]'hin).toNat_lt
            obtain ⟨h3, hh3⟩ : ∃ h3, h3 = h2 + (s[p]'hin).toNat := ⟨_, rfl⟩
            have hw2 : IntKind.u32.wrap ((s[p]'hin).toNat : Int) = ((s[p]'hin).toNat : Int) := IntWalk.u32_in _ (by omega)
            have hw3 : IntKind.u32.wrap ((h2 : Int) + ((s[p]'hin).toNat : Int)) = (h3 : Int) := by rw [IntWalk.u32_in _ (by omega)]; omega
            have HH3 := Lib.hid hh3
            clear hb hh3
            go_wp2_with fail
            go_roundw
            case rel => exact ⟨t, by omega, by go_num, by rw [HST.out, HH3.out, HH2.out, HIn.out p hin], trivial⟩
            case measure => simp [intOf]
          · have hin1 : ¬ (p : Int) < (s.size : Int) := by omega
            go_wp2_with fail
            go_roundw
            case rel => exact ⟨t, by omega, by go_num, by rw [HST.out, HH2.out, HOut.out p hin]; rfl, trivial⟩
            case measure => simp [intOf]
    · have hj : cellsTo L j = cellsN L := by
        unfold cellsN
        have := HBJ.out
        have := HLn.out
        rw [show (L.length + 3) / 4 = j by omega]
      have hlt1 : ¬ (b : Int) < (s.size : Int) := by omega
      rw [hj] at HO
      go_wp2_with fail
      go_ret
      exact ⟨_, rfl, HO.out, HW.out⟩

end Go.Proofs.Ytkjimgidlpocbaa

namespace Go.Proofs.Ytkjimgidlpocbaa
open Go.RowKit

theorem wordX_in {d p : Int} (h : inW d p) : wordX d p = 65536 * d + p ∧ wordE d p = 0 := ⟨by unfold wordX; rw [if_pos h], by unfold wordE; rw [if_pos h]⟩
theorem wordX_out {d p : Int} (h : ¬ inW d p) : wordX d p = 0 ∧ wordE d p = 1 := ⟨by unfold wordX; rw [if_neg h], by unfold wordE; rw [if_neg h]⟩
theorem ref_cells_of (s : ByteArray) (L : List Nat) (n : Nat) (hs : s.size ≤ 1000000) (hL : cellsN (bytesL s) = L) (hn : L.length = n) (w : World) : Calls Try.prog 29 #[.string s] w fun e w' => ∃ oa c, e = .returned (.slice oa n c) ∧ n ≤ c ∧ c ≤ maxLen ∧ ReadN .u32 w' oa L ∧ Below w.heap.size w w' := by
  subst hL hn
  refine (ref_cells w s hs).mono fun _ _ ⟨v, h1, h2, h3⟩ => ?_
  obtain ⟨oa, c, rfl, h4, h5, _, h6⟩ := h2.reads
  exact ⟨oa, c, h1, h4, h5, h6, h3⟩
theorem back_text (s : ByteArray) : bytesE (cellsN (bytesL s)) (s.size : Int) = 0 ∧ bytesX (cellsN (bytesL s)) (s.size : Int) = s := by
  have hE : bytesE (cellsN (bytesL s)) (s.size : Int) = 0 := by
    unfold bytesE
    have h := cellsN_length (bytesL s)
    rw [bytesL_length] at h
    rw [if_neg (by omega), if_neg (by omega)]
  refine ⟨hE, ?_⟩
  unfold bytesX
  rw [if_pos hE, show ((s.size : Int)).toNat = (bytesL s).length by rw [bytesL_length]; rfl, pack_back (bytesL_lt s), byteText_bytesL]
theorem cellsN_lt (s : ByteArray) : ∀ x ∈ cellsN (bytesL s), x < 4294967296 := by
  intro x hx
  obtain ⟨j, _, rfl⟩ := List.mem_map.1 hx
  exact cellAt_lt (bytesL_lt s) j
theorem list_ne {x s : ByteArray} (h : ¬ x = s) : (x.toList == s.toList) = false := by
  rw [beq_eq_false_iff_ne]
  intro e
  apply h
  rw [ByteArray.toList_eq, ByteArray.toList_eq] at e
  exact ByteArray.ext (Array.toList_inj.1 e)

end Go.Proofs.Ytkjimgidlpocbaa

namespace Go.Proofs.Ytkjimgidlpocbaa
open Go.RowKit

/-! ### Small ones -/
set_option maxRecDepth 100000 in
theorem lands_part (w : World) (x : Int) (h0 : 0 ≤ x) (h1 : x ≤ 4294967295) : Calls Try.prog 50 #[.int .u32 x] w fun e w' => e = .returned (.tuple #[.int .i64 (x / 65536), .int .i64 (x % 65536)]) ∧ w' = w := by
  go_enter Try.func50, Try.ntmps50
  go_wp2_with fail
  go_ret2
  exact ⟨rfl, rfl⟩

theorem hash_walk32 (h b : Nat) (hh : h < 4294967296) (hb : b < 256) : IntKind.u32.wrap (bits BinOp.xor IntKind.u32 (h : Int) (IntKind.u32.wrap (b : Int)) * 16777619) = ((hashStep h b : Nat) : Int) := by
  have hx : h ^^^ b < 4294967296 := Nat.xor_lt_two_pow (n := 32) hh (by omega)
  rw [IntWalk.u32_in (b : Int) (by omega)]
  have e : bits BinOp.xor IntKind.u32 (h : Int) (b : Int) = ((h ^^^ b : Nat) : Int) := by
    have h1 : h % 2 ^ IntKind.u32.bits = h := Nat.mod_eq_of_lt (by show h < 4294967296; omega)
    have h2 : b % 2 ^ IntKind.u32.bits = b := Nat.mod_eq_of_lt (by show b < 4294967296; omega)
    simp only [bits, BitVec.ofInt_natCast, BitVec.toNat_xor, BitVec.toNat_ofNat, h1, h2]
    exact IntWalk.u32_in _ (by omega)
  rw [e]
  unfold hashStep
  generalize h ^^^ b = x
  rw [IntKind.wrap_u32]
  omega

theorem key_text (f : Int) (s : ByteArray) : byteText [f.toNat] ++ s = byteText (f.toNat :: bytesL s) := by
  rw [show byteText (f.toNat :: bytesL s) = byteText [f.toNat] ++ byteText (bytesL s) from ?_, byteText_bytesL]
  unfold byteText
  apply ByteArray.ext
  simp
/-! ### Rows filled by places -/
theorem row_owns {w : World} {g n : Nat} {t : TypeId} {k : IntKind} {F : Nat → Value} {l : List Nat} (base : Nat) (hb : base ≤ g) (hn : l.length = n) (hm : n ≤ maxLen) (h : w.rowIs g t n F) (hF : ∀ j x : Nat, l[j]? = some x → F j = .int k (x : Int)) : OwnN t k w base (.slice (some ⟨g, 0, none⟩) n n) l := by
  obtain ⟨c, h1, h2, h3⟩ := h
  subst hn
  refine ⟨by rw [numC_length, Nat.mul_one], .inr ⟨g, _, c, rfl, hb, h1, Nat.le_refl _, hm, by omega, ?_⟩⟩
  apply List.ext_getElem?
  intro j
  rw [List.getElem?_take]
  by_cases hj : j < l.length
  · rw [if_pos (by omega), Array.getElem?_toList, h3 j hj, hF j _ (List.getElem?_eq_getElem hj), numC_get (List.getElem?_eq_getElem hj)]
  · rw [if_neg (by omega), List.getElem?_eq_none (by rw [numC_length]; omega)]
theorem info_u32' : (Try.prog.info? 52).map (fun i => (i.zero, i.size, i.bytes)) = some (some (.int .u32 0), 1, 4) := info_u32
theorem make_cells (k : Nat) (hk : k ≤ 1000000) (w : World) : (Instr.makeSlice 26 (.int .i64 k) (.int .i64 k)).run Try.prog w = .ok (.slice (some ⟨w.heap.size, 0, none⟩) k k) (w.alloc (.cells (madeCells #[.int .u32 0] k) 52)) :=
  run_make_row' 26 52 (.int .u32 0) 4 Try.underlying26 info_u32 rfl .i64 .i64 k (by omega) (by omega) w
theorem make_bytes (k : Nat) (hk : k ≤ 4000000) (w : World) : (Instr.makeSlice 89 (.int .i64 k) (.int .i64 k)).run Try.prog w = .ok (.slice (some ⟨w.heap.size, 0, none⟩) k k) (w.alloc (.cells (madeCells #[.int .u8 0] k) 5)) :=
  run_make_row' 89 5 (.int .u8 0) 1 Try.underlying89 info_u8 rfl .i64 .i64 k (by omega) (by omega) w

theorem getD_take (L : List Nat) (i j : Nat) : (L.take i).getD j 0 = if j < i then L.getD j 0 else 0 := by
  rw [List.getD_eq_getElem?_getD, List.getElem?_take, List.getD_eq_getElem?_getD]
  split <;> rfl
/-- Another cell stays as it is. -/
theorem cell_other (L : List Nat) (i j : Nat) (h : j ≠ i / 4) : cellAt (L.take (i + 1)) j = cellAt (L.take i) j := by
  have key : ∀ m, m < 4 → (L.take (i + 1)).getD (4 * j + m) 0 = (L.take i).getD (4 * j + m) 0 := fun m hm => by
    rw [getD_take, getD_take]
    by_cases a : 4 * j + m < i
    · rw [if_pos a, if_pos (by omega)]
    · rw [if_neg a, if_neg (by omega)]
  unfold cellAt
  have k0 : (L.take (i + 1)).getD (4 * j) 0 = (L.take i).getD (4 * j) 0 := key 0 (by omega)
  rw [k0, key 1 (by omega), key 2 (by omega), key 3 (by omega)]
/-- One byte more. -/
theorem cell_step {L : List Nat} (hL : ∀ b ∈ L, b < 256) (i k : Nat) (hk : i % 4 = k) : cellAt (L.take (i + 1)) (i / 4) = cellAt (L.take i) (i / 4) + L.getD i 0 * 2 ^ (k * 8) ∧ cellAt (L.take i) (i / 4) < 2 ^ (k * 8) ∧ L.getD i 0 * 2 ^ (k * 8) < 4294967296 := by
  have hb := getD_lt hL i
  obtain ⟨j, hj⟩ : ∃ j, j = i / 4 := ⟨_, rfl⟩
  rw [← hj]
  unfold cellAt
  simp only [getD_take]
  rcases (show k = 0 ∨ k = 1 ∨ k = 2 ∨ k = 3 by omega) with rfl | rfl | rfl | rfl
  · have e : i = 4 * j := by omega
    subst e
    simp only [show (2 : Nat) ^ (0 * 8) = 1 from rfl]
    repeat (first | rw [if_pos (by omega)] | rw [if_neg (by omega)])
    have b0 := getD_lt hL (4 * j)
    have b1 := getD_lt hL (4 * j + 1)
    have b2 := getD_lt hL (4 * j + 2)
    have b3 := getD_lt hL (4 * j + 3)
    omega
  · have e : i = 4 * j + 1 := by omega
    subst e
    simp only [show (2 : Nat) ^ (1 * 8) = 256 from rfl]
    repeat (first | rw [if_pos (by omega)] | rw [if_neg (by omega)])
    have b0 := getD_lt hL (4 * j)
    have b1 := getD_lt hL (4 * j + 1)
    have b2 := getD_lt hL (4 * j + 2)
    have b3 := getD_lt hL (4 * j + 3)
    omega
  · have e : i = 4 * j + 2 := by omega
    subst e
    simp only [show (2 : Nat) ^ (2 * 8) = 65536 from rfl]
    repeat (first | rw [if_pos (by omega)] | rw [if_neg (by omega)])
    have b0 := getD_lt hL (4 * j)
    have b1 := getD_lt hL (4 * j + 1)
    have b2 := getD_lt hL (4 * j + 2)
    have b3 := getD_lt hL (4 * j + 3)
    omega
  · have e : i = 4 * j + 3 := by omega
    subst e
    simp only [show (2 : Nat) ^ (3 * 8) = 16777216 from rfl]
    repeat (first | rw [if_pos (by omega)] | rw [if_neg (by omega)])
    have b0 := getD_lt hL (4 * j)
    have b1 := getD_lt hL (4 * j + 1)
    have b2 := getD_lt hL (4 * j + 2)
    have b3 := getD_lt hL (4 * j + 3)
    omega
theorem or_walk {c x k : Nat} (hc : c < 2 ^ k) (hk : k ≤ 24) (b : Nat) (hx : x = b * 2 ^ k) (hx2 : x < 4294967296) : bits .or .u32 (c : Int) (x : Int) = ((c + x : Nat) : Int) := by
  have hc2 : c < 4294967296 := Nat.lt_of_lt_of_le hc (by calc 2 ^ k ≤ 2 ^ 24 := Nat.pow_le_pow_right (by decide) hk
      _ ≤ 4294967296 := by decide)
  have h := (bits_nat .u32 32 (by decide) (fun n a b => IntWalk.u32_in n (by omega)) c x (by omega) (by omega)).2
  rw [h, hx, Nat.or_comm, Nat.mul_comm b, ← Nat.two_pow_add_eq_or_of_lt hc b, Nat.add_comm]
theorem shl_walk (b k : Nat) (hk : k ≤ 24) (x : Nat) (hx : b * 2 ^ k = x) (hx2 : x < 4294967296) : Op.shift .shl .u32 (b : Int) .i64 (k : Int) = pure (.int .u32 (x : Int)) := by
  rw [shift_shl .u32 .i64 _ _ (by omega) (by show (k : Int) ≤ 32; omega)]
  rw [show ((k : Int)).toNat = k from rfl, show ((b : Int) * 2 ^ k) = (x : Int) by rw [← hx]; simp, IntWalk.u32_in _ (by omega)]
theorem shr_walk (x k : Nat) (hk : k ≤ 24) (q : Nat) (hq : x / 2 ^ k = q) : Op.shift .shr .u32 (x : Int) .i64 (k : Int) = pure (.int .u32 (q : Int)) := by
  rw [shift_shr .u32 .i64 _ _ (by omega) (by show (k : Int) ≤ 32; omega)]
  rw [show ((k : Int)).toNat = k from rfl, ← hq]
  simp
theorem byte_part (x k : Nat) (hk : k < 4) : (fourB x)[k]? = some (x / 2 ^ (k * 8) % 256) := by
  rcases (show k = 0 ∨ k = 1 ∨ k = 2 ∨ k = 3 by omega) with rfl | rfl | rfl | rfl <;> simp [fourB]
end Go.Proofs.Ytkjimgidlpocbaa

namespace Go.Proofs.Ytkjimgidlpocbaa
open Go.RowKit

def fillB (B : List Nat) (i j : Nat) : Value := .int .u8 ((if j < i then B.getD j 0 else 0 : Nat) : Int)

end Go.Proofs.Ytkjimgidlpocbaa

namespace Go.Proofs.Ytkjimgidlpocbaa
open Go.RowKit
section
variable {P : Program} {ops : Array Oper}
theorem closed_none : ClosedL ops (fun _ => false) := fun _ _ _ h => by cases h
theorem closed_put {l : Nat → Bool} (h : ClosedL ops l) {i : Nat} {o : Oper} (ho : ops[i]? = some o) (he : ∀ e ∈ o.after, Region.binds .any e = true → l e.on = true) : ClosedL ops (fun j => j == i || l j) := by
  intro j o' hj hl e hm hb
  by_cases hji : j = i
  · subst hji
    rw [ho] at hj
    cases hj
    simp [he e hm hb]
  · have : l j = true := by simpa [hji] using hl
    simp [h j o' hj this e hm hb]
end
theorem wp_region_cl {P : Program} {ops : Array Oper} {σ : Type} {id : Nat} {a0 : Act} {w : World} {Q : Exit → Act → World → Prop} (V : σ → Nat → Value) (R : σ → (Nat → Bool) → World → Prop) {aT : σ → Act}
    (hm : P.follows .mixedOrders = true) (hB : regionB ops a0.tmps.size = true) (hT : ∀ s, putTo ops (V s) a0 ops.size = aT s) (s0 : σ) (h0 : R s0 (fun _ => false) w.drew)
    (step : ∀ (i : Nat) (o : Oper), ops[i]? = some o → ∀ (s : σ) (l : Nat → Bool) (wx : World), R s l wx → l i = false → (∀ e ∈ o.after, Region.binds .any e = true → l e.on = true) → ClosedL ops l →
      ∀ K : Act → World → Prop, (∀ (s' : σ) (w' : World), (∀ j, l j = true → V s' j = V s j) → R s' (fun j => j == i || l j) w' → K ((aT s).put o.dst (V s' i)) w') →
        if Region.wanted o (yielded ops (aT s).tmps) then o.wp P (aT s) wx K NoWay else K ((aT s).put o.dst undef) wx)
    (fin : ∀ (s : σ) (l : Nat → Bool) (wx : World), (∀ j, j < ops.size → l j = true) → R s l wx → Q .normal (aT s) wx) : (Code.region id ops true).wp P Q a0 w :=
  wp_region_by V (fun s l wx => R s l wx ∧ ClosedL ops l) hm hB hT s0 ⟨h0, closed_none⟩
    (fun i o ho s l wx hR hl he K hK => step i o ho s l wx hR.1 hl he hR.2 K (fun s' w' hV hR' => hK s' w' hV ⟨hR', closed_put hR.2 ho he⟩))
    (fun s l wx hall hR => fin s l wx hall hR.1)
end Go.Proofs.Ytkjimgidlpocbaa

namespace Go.Proofs.Ytkjimgidlpocbaa
open Go.RowKit

section
variable {P : Program} {ops : Array Oper}
theorem any_late {σ : Type} {a0 : Act} {w : World} {Q : Exit → Act → World → Prop} (V : σ → Nat → Value) (R : σ → (Nat → Bool) → World → Prop) (aT : σ → Act)
    (L : Nat → Nat → Bool) (hB : regionL L ops a0.tmps.size = true) (hT : ∀ s, aT s = putTo ops (V s) a0 ops.size) (s0 : σ) (h0 : R s0 (fun _ => false) w.drew)
    (hcon : ∀ l, ClosedL ops l → ∀ i j, L i j = true → l j = true → l i = true) (hlate : ∀ s l wx, R s l wx → ∀ i j d, L i j = true → dstOf ops j = some d → l j = false → a0.tmps[d]? = some (V s j))
    (step : ∀ (i : Nat) (o : Oper), ops[i]? = some o → ∀ (s : σ) (l : Nat → Bool) (wx : World), R s l wx → l i = false → (∀ e ∈ o.after, Region.binds .any e = true → l e.on = true) →
      ∀ K : Act → World → Prop, (∀ (s' : σ) (w' : World), (∀ j, l j = true → V s' j = V s j) → R s' (fun j => j == i || l j) w' → K ((aT s).put o.dst (V s' i)) w') →
        if Region.wanted o (yielded ops (aT s).tmps) then o.wp P (aT s) wx K NoWay else K ((aT s).put o.dst undef) wx)
    (fin : ∀ (s : σ) (l : Nat → Bool) (wx : World), (∀ j, j < ops.size → l j = true) → R s l wx → Q .normal (aT s) wx) : wpAny P .any ops Q ops.size (Array.replicate ops.size false) a0 w.drew := by
  have hf := Fair.of hB
  have main : ∀ (fuel : Nat) (listed : Array Bool) (a : Act) (wx : World) (s : σ), listed.size = ops.size → listed.toList.count false ≤ fuel → Slots ops (V s) a0 (fun j => listed.getD j false) a → ClosedL ops (fun j => listed.getD j false) → R s (fun j => listed.getD j false) wx →
      wpAny P .any ops Q fuel listed a wx := by
    intro fuel
    have done : ∀ (listed : Array Bool) (a : Act) (wx : World) (s : σ), listed.size = ops.size → Slots ops (V s) a0 (fun j => listed.getD j false) a → R s (fun j => listed.getD j false) wx → Region.ready .any ops listed = [] → Q .normal a wx := by
      intro listed a wx s hs hS hR hr
      have hl := all_listed hf hs hr
      have := hS.same (Slots.putTo hf (V s) a0 rfl ops.size) hl (fun j hj => by simpa using hj)
      rw [this, ← hT]
      exact fin s _ wx hl hR
    induction fuel with
    | zero =>
      intro listed a wx s hs hc hS hCl hR
      have hr : Region.ready .any ops listed = [] := by
        cases hr : Region.ready .any ops listed with
        | nil => rfl
        | cons i is =>
          have hi : i ∈ Region.ready .any ops listed := by rw [hr]; exact List.mem_cons_self
          obtain ⟨h1, o, ho, _⟩ := mem_ready.1 hi
          have hlt := (Array.getElem?_eq_some_iff.1 ho).1
          have : false ∈ listed.toList := by
            have hlt' : i < listed.size := by omega
            have h2 : listed[i] = false := by simpa [hlt'] using h1
            rw [← h2]
            exact List.mem_of_getElem (i := i) (h := by simpa using hlt') (by simp)
          have := List.count_pos_iff.2 this
          omega
      exact ⟨hr, done listed a wx s hs hS hR hr⟩
    | succ fuel ih =>
      intro listed a wx s hs hc hS hCl hR
      refine ⟨done listed a wx s hs hS hR, fun i hi => ?_⟩
      obtain ⟨h1, o, ho, hedge⟩ := mem_ready.1 hi
      have hlt := (Array.getElem?_eq_some_iff.1 ho).1
      have hlt' : i < listed.size := by omega
      have h1' := getD_both h1
      have hTs := Slots.putTo hf (V s) a0 rfl ops.size
      rw [← hT] at hTs
      have hd : ∀ x, o.dst = some x → x < a0.tmps.size := fun x hx => hf.lt i x ((dstOf_of ho).trans hx)
      have hcount : (listed.setIfInBounds i true).toList.count false ≤ fuel := by
        have h2 : listed[i] = false := by simpa [hlt'] using h1
        have : listed.toList.count false = (listed.setIfInBounds i true).toList.count false + 1 := by
          rw [Array.toList_setIfInBounds, List.count_set (by simpa using hlt')]
          have hp : 0 < listed.toList.count false := List.count_pos_iff.2 (by
            rw [← h2]
            exact List.mem_of_getElem (i := i) (h := by simpa using hlt') (by simp))
          rw [Array.count_toList] at hp
          simp [h2]
          omega
        omega
      have next : ∀ (s' : σ) (w' : World), (∀ j, listed.getD j false = true → V s' j = V s j) → R s' (fun j => j == i || listed.getD j false) w' →
          wpAny P .any ops Q fuel (listed.setIfInBounds i true) (a.put o.dst (V s' i)) w' := by
        intro s' w' hV hR'
        have e : (fun j => (listed.setIfInBounds i true).getD j false) = (fun j => j == i || listed.getD j false) := funext fun j => getD_set listed i j hlt'
        refine ih _ _ w' s' (by simpa using hs) hcount ?_ ?_ (by rw [e]; exact hR')
        rotate_left
        · rw [e]
          intro k ok hok hk e2 he2 hb2
          simp only [Bool.or_eq_true, beq_iff_eq] at hk ⊢
          rcases hk with rfl | hk
          · obtain rfl : o = ok := Option.some.inj (ho.symm.trans hok)
            exact .inr (hedge e2 he2 hb2)
          · exact .inr (hCl k ok hok hk e2 he2 hb2)
        have := Slots.put hf hS rfl i (fun j => getD_set listed i j hlt') h1' hV
        rw [dstOf_of ho] at this
        exact this
      have st := step i o ho s _ wx hR h1' (fun e he hb => hedge e he hb)
      have hL : ∀ j d, L i j = true → dstOf ops j = some d → listed.getD j false = false ∧ a0.tmps[d]? = some (V s j) := by
        intro j d hlj hdj
        have hj : listed.getD j false = false := by
          cases hx : listed.getD j false with
          | false => rfl
          | true => have := hcon _ hCl i j hlj hx; rw [h1'] at this; cases this
        exact ⟨hj, hlate s _ wx hR i j d hlj hdj hj⟩
      unfold wpOp
      simp only [ho]
      rw [Slots.wanted hf hS hTs ho (fun e he hb => hedge e he hb) hL]
      have hsz : (aT s).tmps.size = a0.tmps.size := hTs.size
      by_cases hw : Region.wanted o (yielded ops (aT s).tmps) = true
      · simp only [hw, if_true] at st ⊢
        refine .inl (wp_carry (Slots.exec hf hS hTs ho (fun e he hb => hedge e he hb) hL) (st _ ?_) (put_inj hS.size hsz hd))
        intro s' w' hV hR'
        exact ⟨V s' i, rfl, next s' w' hV hR'⟩
      · simp only [hw, if_false, Bool.false_eq_true] at st ⊢
        have := st (fun a' w' => ∃ v, a' = (aT s).put o.dst v ∧ wpAny P .any ops Q fuel (listed.setIfInBounds i true) (a.put o.dst v) w') (fun s' w' hV hR' => ⟨V s' i, rfl, next s' w' hV hR'⟩)
        obtain ⟨v, hv, hk⟩ := this
        rw [put_inj hS.size hsz hd undef v hv]
        exact hk
  refine main ops.size _ a0 _ s0 (by simp) (by simp) ?_ ?_ ?_
  rotate_left
  · have e : (fun j => (Array.replicate ops.size false).getD j false) = fun _ => false := funext fun j => getD_replicate_false _ _
    rw [e]
    intro k ok hok hk
    cases hk
  rotate_left
  · have e : (fun j => (Array.replicate ops.size false).getD j false) = fun _ => false := funext fun j => getD_replicate_false _ _
    rw [e]
    exact Slots.start _ _
  · have e : (fun j => (Array.replicate ops.size false).getD j false) = fun _ => false := funext fun j => getD_replicate_false _ _
    rw [e]
    exact h0
def plainOps (ops : Array Oper) : Bool := ops.all fun o => match o.op with | .defer _ => false | _ => true
theorem plain_at {i : Nat} {o : Oper} (h : plainOps ops = true) (ho : ops[i]? = some o) : ∀ c, o.op ≠ .defer c := by
  intro c hc
  obtain ⟨hlt, he⟩ := Array.getElem?_eq_some_iff.1 ho
  have := (Array.all_eq_true.1 h) i hlt
  rw [he, hc] at this
  cases this
/-- Without a way out but its end. -/
def OnlyEnd (Q : Exit → Act → World → Prop) : Exit → Act → World → Prop
  | .normal, a, w => Q .normal a w
  | _, _, _ => False
theorem oper_in {l n : Nat} {o : Oper} {a : Act} {w : World} {K K' : Act → World → Prop} {Q : Exit → Act → World → Prop} (hnd : ∀ c, o.op ≠ .defer c) (hk : ∀ a w, K a w → K' a w) (h : o.wp P a w K (OnlyEnd Q)) : o.wpIn (Fence.wide.inRound l) n P a w K' Q := by
  unfold Oper.wp at h
  unfold Oper.wpIn
  refine ⟨fun _ _ => trivial, ?_⟩
  rw [Oper.semAt_plain _ _ _ hnd]
  generalize (execOp a.eval o).run P w = r at h ⊢
  cases r with
  | ok x w' =>
    cases x with
    | value v => exact hk _ _ h
    | skip => exact hk _ _ h
    | defer d => exact hk _ _ h
    | enter f args =>
      refine ⟨fun hd => by simp [Fence.inRound, Fence.wide] at hd, ?_⟩
      have h' : Calls P f args w' _ := h
      refine CallsIn.inRound l (callsIn_wide.2 (h'.mono ?_))
      intro e w2 he
      cases e with
      | returned v => exact hk _ _ he
      | panicked c => exact he.elim
      | outgrown => obtain ⟨_, _, he⟩ := he; exact he.elim
    | row r args =>
      refine ⟨fun hd => by simp [Fence.inRound, Fence.wide] at hd, ?_⟩
      have h' : Rows P r args w' _ := h
      intro c cs _
      obtain ⟨v, w2, hr, hs⟩ := h' c cs
      exact ⟨v, w2, hk _ _ hr, stepsIn_wide.2 hs⟩
    | _ => exact h.elim
  | halt s w' =>
    cases s with
    | panic v => exact (show False from h).elim
    | _ => exact h.elim
theorem any_in {l n : Nat} {Q : Exit → Act → World → Prop} (hp : plainOps ops = true) : ∀ (fuel : Nat) (listed : Array Bool) (a : Act) (w : World), wpAny P .any ops (OnlyEnd Q) fuel listed a w → wpAnyIn (Fence.wide.inRound l) n P .any ops Q fuel listed a w
  | 0, listed, a, w, h => h
  | fuel + 1, listed, a, w, h => by
    refine ⟨h.1, fun i hi => ?_⟩
    have h2 := h.2 i hi
    unfold wpOp at h2
    unfold wpOpIn
    cases ho : ops[i]? with
    | none => rw [ho] at h2; exact any_in hp fuel _ a w h2
    | some o =>
      rw [ho] at h2
      simp only at h2 ⊢
      split
      · rename_i hw
        rw [if_pos hw] at h2
        rcases h2 with h2 | ⟨_, h2⟩
        · exact oper_in (plain_at hp ho) (fun a w hk => any_in hp fuel _ a w hk) h2
        · obtain ⟨_, _, h2⟩ := h2
          exact h2.elim
      · rename_i hw
        rw [if_neg hw] at h2
        exact ⟨fun _ _ => trivial, any_in hp fuel _ _ w h2⟩
theorem wpIn_region_cl {σ : Type} {id l' n : Nat} {a0 : Act} {w : World} {Q : Exit → Act → World → Prop} (V : σ → Nat → Value) (R : σ → (Nat → Bool) → World → Prop) {aT : σ → Act}
    (hm : P.follows .mixedOrders = true) (hp : plainOps ops = true) (hB : regionB ops a0.tmps.size = true) (hT : ∀ s, putTo ops (V s) a0 ops.size = aT s) (s0 : σ) (h0 : R s0 (fun _ => false) w.drew)
    (step : ∀ (i : Nat) (o : Oper), ops[i]? = some o → ∀ (s : σ) (l : Nat → Bool) (wx : World), R s l wx → l i = false → (∀ e ∈ o.after, Region.binds .any e = true → l e.on = true) → ClosedL ops l →
      ∀ K : Act → World → Prop, (∀ (s' : σ) (w' : World), (∀ j, l j = true → V s' j = V s j) → R s' (fun j => j == i || l j) w' → K ((aT s).put o.dst (V s' i)) w') →
        if Region.wanted o (yielded ops (aT s).tmps) then o.wp P (aT s) wx K NoWay else K ((aT s).put o.dst undef) wx)
    (fin : ∀ (s : σ) (l : Nat → Bool) (wx : World), (∀ j, j < ops.size → l j = true) → R s l wx → Q .normal (aT s) wx) : (Code.region id ops true).wpIn (Fence.wide.inRound l') n P Q a0 w := by
  refine wpIn_region_any hm (any_in hp _ _ _ _ ?_)
  exact any_late V (fun s l wx => R s l wx ∧ ClosedL ops l) aT (fun _ _ => false) hB (fun s => (hT s).symm) s0 ⟨h0, closed_none⟩ (fun _ _ _ _ h => by cases h) (fun _ _ _ _ _ _ _ h => by cases h)
    (fun i o ho s l wx hR hl he K hK => step i o ho s l wx hR.1 hl he hR.2 K (fun s' w' hV hR' => hK s' w' hV ⟨hR', closed_put hR.2 ho he⟩))
    (fun s l wx hall hR => fin s l wx hall hR.1)
end
end Go.Proofs.Ytkjimgidlpocbaa

namespace Go.Proofs.Ytkjimgidlpocbaa
open Go.RowKit Go.Shelf

attribute [local go_sem] Oper.semAt_some

def encE (l : List En) : Int := if MayE l then 0 else 1
def encX (l : List En) : List Nat := if MayE l then encN l else []
/-- What has come of parts that were handed out: their cells, their bytes. -/
def stepP (l : List En) (P : List Nat × List Nat) (k : Nat) : List Nat × List Nat := (P.1 ++ [(65536 * (enAt l (lastI l k)).1).toNat + P.2.length], P.2 ++ blkB 0 (blkOf l k))
def accP (l : List En) (ks : List Nat) : List Nat × List Nat := ks.foldl (stepP l) ([], [])
theorem accP_snoc (l : List En) (ks : List Nat) (k : Nat) : accP l (ks ++ [k]) = stepP l (accP l ks) k := by simp [accP]
theorem accP_range (l : List En) : ∀ k, 4 * k < l.length + 4 → accP l (List.range k) = (headsN l k, bytesTo l (min (4 * k) l.length))
  | 0, _ => by simp [accP, headsN, bytesTo]
  | k + 1, h => by
    have ih := accP_range l k (by omega)
    rw [List.range_succ, accP_snoc, ih, headsN_snoc, bytesTo_block (by omega)]
    unfold stepP headAt
    rw [show min (4 * k) l.length = 4 * k by omega]
/-- A block that is no cells turns: what one owns stays. -/
theorem own_turn {W W' : World} {row : Option Nat} {base size n : Nat} {e : TypeId} {v : Value} {xs : List Value} (hr : W.ownsRow base e size v n xs) (hg : W.grownBy W' row) (hrow : ∀ r, row = some r → ∃ o : Obj, W.heap[r]? = some o ∧ o.isCells = false) : W'.ownsRow base e size v n xs := by
  refine hr.kept hg ?_
  rcases hr.2 with ⟨rfl, _⟩ | ⟨g, cap, cur, rfl, _, hgb, _⟩
  · exact .inl rfl
  · refine .inr fun e' => ?_
    obtain ⟨o, ho, hc⟩ := hrow g (by simpa [Value.ownBlock] using e'.symm)
    rw [hgb] at ho; cases ho; cases hc
theorem box_turn {W W' : World} {row : Option Nat} {B : Nat} {t : TypeId} {v : Value} (h : Boxed W B t v) (hg : W.grownBy W' row) (hrow : ∀ r, row = some r → ∃ o : Obj, W.heap[r]? = some o ∧ o.isCells = false) : Boxed W' B t v := by
  refine h.kept hg fun e' => ?_
  obtain ⟨o, ho, hc⟩ := hrow B e'.symm
  rw [show W.heap[B]? = _ from h] at ho; cases ho; cases hc
/-- Both variables, what they hold; the iterator's two. -/
structure EncB (W : World) (b0 b1 bs bn : Nat) (vs : Value) (vc vx vb : Value) (A B : List Nat) (w : World) : Prop where
  bC : Boxed w b0 26 vc
  bB : Boxed w b1 89 vx
  bS : Boxed w bs 32 vs
  bN : Boxed w bn 3 (.int .i64 4)
  oC : OwnN 52 .u32 w W.heap.size vc A
  oB : OwnN 5 .u8 w W.heap.size vb B
  low : Below W.heap.size W w
structure EncI (W : World) (b0 b1 bs bn N : Nat) (vs : Value) (l : List En) (pre : List (Part4 N)) (w : World) : Prop where
  vars : ∃ vc vb, EncB W b0 b1 bs bn vs vc vb vb (N :: (accP l (pre.map (·.1))).1) (accP l (pre.map (·.1))).2 w
theorem encI_own {W : World} {b0 b1 bs bn N B : Nat} {vs : Value} {l : List En} (hB : W.heap.size ≤ B) : OwnFrom B (EncI W b0 b1 bs bn N vs l) := by
  rintro s X Y row ⟨⟨vc, vb, h⟩⟩ hg hr
  have hr2 : ∀ r, row = some r → ∃ o : Obj, X.heap[r]? = some o ∧ o.isCells = false := fun r e => (hr r e).2
  exact ⟨⟨vc, vb, box_turn h.bC hg hr2, box_turn h.bB hg hr2, box_turn h.bS hg hr2, box_turn h.bN hg hr2, own_turn h.oC hg hr2, own_turn h.oB hg hr2, h.low.grown hg h.low.size (fun k e => Nat.le_trans hB (hr k e).1)⟩⟩
section
variable {W w w1 : World} {b0 b1 bs bn : Nat} {vs vc vx vb : Value} {A B : List Nat}
theorem EncB.below {w' : World} (h : EncB W b0 b1 bs bn vs vc vx vb A B w) (hb : Below w.heap.size w w') : EncB W b0 b1 bs bn vs vc vx vb A B w' :=
  ⟨block_below h.bC hb, block_below h.bB hb, block_below h.bS hb, block_below h.bN hb, h.oC.below hb, h.oB.below hb, low_more h.low hb⟩
theorem keeps_below {w w' : World} (hb : Below w.heap.size w w') : KeepsOthers w w' := ⟨hb.size, fun k _ hk _ => (hb.block k (lt_of_heap hk)).trans hk⟩
theorem row_set13 {e t : TypeId} {w : World} {base size n b : Nat} {v u u2 : Value} {xs : List Value} (h : w.ownsRow base e size v n xs) (hb : Boxed w b t u) (ht : t ≠ e) : (w.setCell ⟨b, 0, none⟩ u2).ownsRow base e size v n xs :=
  h.kept (grownBy_setCell' w b u2) (.inr (hb.not_row ht h).symm)
theorem box_set {w : World} {b b2 : Nat} {t t2 : TypeId} {u u2 x : Value} (h : Boxed w b t u) (hne : b ≠ b2) (_ : Boxed w b2 t2 u2) : Boxed (w.setCell ⟨b2, 0, none⟩ x) b t u := h.kept (grownBy_setCell' w b2 x) (by simpa using hne)
theorem keeps_grown {e : TypeId} {base size n : Nat} {v : Value} {xs : List Value} {w w1 : World} (h : w.ownsRow base e size v n xs) (hg : w.grownBy w1 v.ownBlock) : KeepsOthers w w1 := KeepsOthers.of_grownBy hg fun j o ej hj => by
  rcases h.2 with ⟨rfl, _⟩ | ⟨g, cap, cur, rfl, _, hgb, _⟩
  · simp [Value.ownBlock] at ej
  · obtain rfl : g = j := by simpa [Value.ownBlock] using ej
    rw [hgb] at hj; cases hj; rfl
/-- A cell more. -/
theorem EncB.moreC {x n : Nat} {v' : Value} (h : EncB W b0 b1 bs bn vs vc vx vb A B w) (hn : A.length = n) (hd : b0 ≠ b1 ∧ b0 ≠ bs ∧ b0 ≠ bn ∧ W.heap.size ≤ b0) (ho : w1.ownsRow W.heap.size 52 1 v' (n + 1) (numC .u32 A ++ [.int .u32 (x : Int)])) (hg : w.grownBy w1 vc.ownBlock) :
    Boxed w1 b0 26 vc ∧ EncB W b0 b1 bs bn vs v' vx vb (A ++ [x]) B (w1.setCell ⟨b0, 0, none⟩ v') ∧ KeepsOthers w (w1.setCell ⟨b0, 0, none⟩ v') := by
  subst hn
  have c1 : Boxed w1 b0 26 vc := grown_block h.oC hg h.bC (by decide)
  have c2 : Boxed w1 b1 89 vx := grown_block h.oC hg h.bB (by decide)
  have c3 : Boxed w1 bs 32 vs := grown_block h.oC hg h.bS (by decide)
  have c4 : Boxed w1 bn 3 (.int .i64 4) := grown_block h.oC hg h.bN (by decide)
  have c5 := row_grown h.oC hg h.oB (by decide)
  refine ⟨c1, ⟨c1.set v', box_set c2 (Ne.symm hd.1) c1, box_set c3 (Ne.symm hd.2.1) c1, box_set c4 (Ne.symm hd.2.2.1) c1, ?_, row_set13 c5 c1 (by decide), ?_⟩, (keeps_grown h.oC hg).trans (KeepsOthers.setCell _ _ _)⟩
  · unfold OwnN
    rw [numC_snoc, List.length_append]
    exact row_set13 ho c1 (by decide)
  · exact (h.low.grown hg h.low.size (fun k hk => (World.ownsRow.lt h.oC k hk).1)).setCell (p := ⟨b0, 0, none⟩) hd.2.2.2 v'
/-- Bytes more, not yet stored; and stored. -/
theorem EncB.appB {M : List Nat} {v' : Value} {n m : Nat} (h : EncB W b0 b1 bs bn vs vc vx vb A B w) (hn : B.length = n) (hm : M.length = m) (ho : w1.ownsRow W.heap.size 5 1 v' (n + m) (numC .u8 B ++ numC .u8 M)) (hg : w.grownBy w1 vb.ownBlock) :
    EncB W b0 b1 bs bn vs vc vx v' A (B ++ M) w1 ∧ KeepsOthers w w1 := by
  subst hn hm
  refine ⟨⟨grown_block h.oB hg h.bC (by decide), grown_block h.oB hg h.bB (by decide), grown_block h.oB hg h.bS (by decide), grown_block h.oB hg h.bN (by decide), row_grown h.oB hg h.oC (by decide), ?_, ?_⟩, keeps_grown h.oB hg⟩
  · unfold OwnN
    rw [numC_append, List.length_append]
    exact ho
  · exact h.low.grown hg h.low.size (fun k hk => (World.ownsRow.lt h.oB k hk).1)
theorem EncB.storeB (h : EncB W b0 b1 bs bn vs vc vx vb A B w) (hd : b1 ≠ b0 ∧ b1 ≠ bs ∧ b1 ≠ bn ∧ W.heap.size ≤ b1) : EncB W b0 b1 bs bn vs vc vb vb A B (w.setCell ⟨b1, 0, none⟩ vb) ∧ KeepsOthers w (w.setCell ⟨b1, 0, none⟩ vb) :=
  ⟨⟨box_set h.bC (Ne.symm hd.1) h.bB, h.bB.set vb, box_set h.bS (Ne.symm hd.2.1) h.bB, box_set h.bN (Ne.symm hd.2.2.1) h.bB, row_set13 h.oC h.bB (by decide), row_set13 h.oB h.bB (by decide), h.low.setCell (p := ⟨b1, 0, none⟩) hd.2.2.2 vb⟩, KeepsOthers.setCell _ _ _⟩
theorem own_defer {W W' : World} {base size n D : Nat} {e : TypeId} {v : Value} {xs : List Value} {o : Obj} (hr : W.ownsRow base e size v n xs) (hg : W.grownBy W' v.ownBlock) (h : W.heap[D]? = some o) (hc : o.isCells = false := by rfl) : W'.heap[D]? = some o := (keeps_grown hr hg).same D o h hc
/-- Cells behind cells, as an operation of a region that draws. -/
theorem op_append_u32 {w W : World} {o : Oper} {a : Act} {K : Act → World → Prop} {Q : Exit → Act → World → Prop} (s x : Operand) (hop : o.op = .call { callee := .builtin .append, args := #[s, x], argTypes := #[26, 26] })
    (v : Value) (A B : List Nat) (hs : a.eval s = v) (hlow : Below W.heap.size W w) (hown : OwnN 52 .u32 w W.heap.size v A) (oa : Option Addr) (c n : Nat) (hn : B.length = n) (hx : a.eval x = .slice oa n c) (hB : ReadN .u32 w oa B) (h0 : oa = none → c = 0) (hc : n ≤ c) (hl : A.length + n ≤ 1000000)
    (h : ∀ v' w', OwnN 52 .u32 w' W.heap.size v' (A ++ B) → w.grownBy w' v.ownBlock → K (a.put o.dst v') w') : o.wp Try.prog a w K Q := by
  obtain ⟨i0, hi, hz0, hz1, hz2⟩ := info_parts info_u32
  subst hn
  cases oa with
  | none =>
    have hc0 := h0 rfl
    have hB0 : B = [] := List.eq_nil_of_length_eq_zero (by omega)
    subst hB0 hc0
    have hrun := run_append_owned_none (P := Try.prog) (w := w) W.heap.size 26 o.type 52 i0 1 Try.underlying26 hi v A.length (numC .u32 A) hown
    have hk := h v w (by rw [List.append_nil]; exact hown) (World.grownBy.refl w _)
    unfold Oper.wp
    simp only [List.length_nil] at hx
    simp [execOp, hop, resolve, invoke, builtin, hs, hx, hrun, Result.andThen]
    exact hk
  | some ad =>
    refine wp_append_own w s x 26 hop W.heap.size 52 i0 _ 1 4 Try.underlying26 hi hz0 hz1 hz2 rfl (by decide) v A.length (numC .u32 A) hs hown ad B.length c (numC .u32 B) hx (by rw [numC_length, Nat.mul_one]) hB.cells (numC_one .u32 B) (by unfold maxLen; omega) (by omega) hlow.size ?_
    intro v' w' ho hg _
    exact h v' w' (by unfold OwnN; rw [numC_append, List.length_append]; exact ho) hg
theorem own_nonnil {t : TypeId} {k : IntKind} {w : World} {base : Nat} {v : Value} {l : List Nat} (h : OwnN t k w base v l) (h0 : 0 < l.length) : v ≠ .slice none 0 0 := by
  rintro rfl
  rcases h.2 with ⟨_, h1⟩ | ⟨g, cap, cur, e, _⟩
  · omega
  · cases e
theorem slice_of {w : World} {base size n : Nat} {e : TypeId} {v : Value} {xs : List Value} (h0 : 0 < n) (h : w.ownsRow base e size v n xs) : ∃ g c, v = .slice (some ⟨g, 0, none⟩) n c := by
  rcases h.2 with ⟨_, h1⟩ | ⟨g, cap, cur, h1, _⟩
  · omega
  · exact ⟨g, cap, h1⟩
end
theorem goodP_of : ∀ (l : List Int) (a : Int), 0 ≤ a → riseB a l = true → GoodP a l
  | [], _, _, _ => trivial
  | p :: l, a, h0, h => by
    unfold riseB at h
    split at h
    · cases h
    rename_i hp
    exact ⟨h0, by omega, by omega, goodP_of l p (by omega) h⟩
theorem goodP_first {l : List Int} (h : UpP l) : GoodP 0 l := by
  cases l with
  | nil => trivial
  | cons p l =>
    have h2 := (rise_up _).2 h
    unfold riseB at h2
    split at h2
    · cases h2
    rename_i hp
    exact ⟨by omega, by omega, by omega, goodP_of l p (by omega) h2⟩
theorem goodB_take {l : List En} (h : MayE l) : ∀ (m s : Nat) (a : Int), s + m ≤ l.length → 0 ≤ a → (∀ j, s ≤ j → j < l.length → a ≤ (enAt l j).1) → GoodB a ((l.drop s).take m)
  | 0, s, a, _, _, _ => by simp [GoodB]
  | m + 1, s, a, hs, h0, ha => by
    have hi : s < l.length := by omega
    have hd := may_doc h hi
    obtain ⟨_, h1, h2, h3⟩ := h.2 s hi
    rw [drop_en (enAt_lt hi), List.take_succ_cons]
    refine ⟨h0, ha s (Nat.le_refl _) hi, hd.2, h2, goodP_first h3, goodB_take h m (s + 1) _ (by omega) hd.1 fun j hj hjl => ?_⟩
    have hup : ∀ t, s + t < l.length → (enAt l s).1 ≤ (enAt l (s + t)).1 := by
      intro t
      induction t with
      | zero => intro _; exact Int.le_refl _
      | succ t ih =>
        intro ht
        have := (h.2 (s + (t + 1)) ht).1.2.2 (by omega)
        rw [doc_map, doc_map, show s + (t + 1) - 1 = s + t by omega] at this
        have := ih (by omega)
        omega
    have := hup (j - s) (by omega)
    rwa [show s + (j - s) = j by omega] at this
theorem blkB_len : ∀ (r : List En) (a : Int), GoodB a r → (blkB a r).length ≤ 774 * r.length
  | [], _, _ => by simp [blkB]
  | e :: r, a, h => by
    obtain ⟨h0, h1, h2, h3, h4, h5⟩ := h
    have ih := blkB_len r e.1 h5
    have := put_len3 (n := (e.1 - a).toNat) (by omega)
    have := put_len3 (n := e.2.length) (by omega)
    have hp : ∀ (l : List Int) (a : Int), a ≤ 65535 → GoodP a l → (posB a l).length ≤ 3 * l.length := by
      intro l
      induction l with
      | nil => intro a _ _; simp [posB]
      | cons p l ih =>
        rintro a ha ⟨g0, g1, g2, g3⟩
        have := ih p g2 g3
        have := put_len3 (n := (p - a).toNat) (by omega)
        simp only [posB, List.length_append, List.length_cons]
        omega
    have := hp e.2 0 (by omega) h4
    simp only [blkB, entB, List.length_append, List.length_cons]
    omega
theorem goodB_blk {l : List En} (h : MayE l) {k : Nat} : GoodB 0 (blkOf l k) := by
  unfold blkOf
  rw [show (l.drop (4 * k)).take 4 = (l.drop (4 * k)).take (min 4 (l.length - 4 * k)) from List.take_eq_take_iff.2 (by rw [List.length_drop]; omega)]
  by_cases hk : 4 * k ≤ l.length
  · exact goodB_take h _ _ 0 (by omega) (by omega) fun j _ hj => (may_doc h hj).1
  · rw [show min 4 (l.length - 4 * k) = 0 by omega, List.take_zero]
    trivial
theorem blk_len {l : List En} (h : MayE l) (k : Nat) : (blkB 0 (blkOf l k)).length ≤ 3096 := by
  have h1 := blkB_len _ 0 (goodB_blk h (k := k))
  have h2 := blkOf_length (l := l) (k := k)
  omega
theorem blkB_pos (a : Int) (r : List En) (h : 0 < r.length) : 0 < (blkB a r).length := by
  cases r with
  | nil => simp at h
  | cons e r =>
    simp only [blkB, entB, List.length_append]
    have := (put_len 4 (e.1 - a).toNat).1
    unfold putN
    omega
theorem accF_len {l : List En} (h : MayE l) : ∀ (ks : List Nat) (P : List Nat × List Nat), (ks.foldl (stepP l) P).2.length ≤ P.2.length + 3096 * ks.length ∧ (ks.foldl (stepP l) P).1.length = P.1.length + ks.length
  | [], P => by simp
  | k :: ks, P => by
    have := blk_len h k
    have ih := accF_len h ks (stepP l P k)
    rw [List.foldl_cons]
    simp only [stepP, List.length_append, List.length_cons, List.length_nil] at ih ⊢
    omega
theorem accP_len {l : List En} (h : MayE l) (ks : List Nat) : (accP l ks).2.length ≤ 3096 * ks.length ∧ (accP l ks).1.length = ks.length := by
  have := accF_len h ks ([], [])
  simpa [accP] using this

end Go.Proofs.Ytkjimgidlpocbaa

namespace Go.Proofs.Ytkjimgidlpocbaa
open Go.RowKit
section
variable {P : Program}
theorem results_cell_tmp {fn : Func} {p q : Tmp} {ty : TypeId} (h : fn.results = #[.cell p ty, .tmp q]) (tmps : Array Value) (w : World) (g : Nat) (t : TypeId) (cs : Array Value) (fr : Nat × Nat) (d : TypeDesc) (v : Value)
    (hp : tmps.getD p undef = .pointer (some ⟨g, 0, none⟩)) (hq : tmps.getD q undef = v) (hg : w.heap[g]? = some (.cells cs t fr))
    (hu : P.underlying ty = some d) (hd : (match d with | .struct _ | .array _ _ => true | _ => false) = true) (hi : (P.info? ty).map (·.size) = some cs.size) :
    (results fn tmps).run P w = .ok (.tuple #[.agg cs, v]) w := by
  have hp' : tmps[p]?.getD undef = .pointer (some ⟨g, 0, none⟩) := by simpa using hp
  have hq' : tmps[q]?.getD undef = v := by simpa using hq
  simp [results, h, hp', hq', asAddr, run_loadVar_row w g t ty cs fr d hg hu hd hi]
theorem results_tmp_cell_tmp {fn : Func} {p q r : Tmp} {ty : TypeId} (h : fn.results = #[.tmp r, .cell p ty, .tmp q]) (tmps : Array Value) (w : World) (g : Nat) (t : TypeId) (cs : Array Value) (fr : Nat × Nat) (d : TypeDesc) (u v : Value)
    (hr : tmps.getD r undef = u) (hp : tmps.getD p undef = .pointer (some ⟨g, 0, none⟩)) (hq : tmps.getD q undef = v) (hg : w.heap[g]? = some (.cells cs t fr))
    (hu : P.underlying ty = some d) (hd : (match d with | .struct _ | .array _ _ => true | _ => false) = true) (hi : (P.info? ty).map (·.size) = some cs.size) :
    (results fn tmps).run P w = .ok (.tuple #[u, .agg cs, v]) w := by
  have hp' : tmps[p]?.getD undef = .pointer (some ⟨g, 0, none⟩) := by simpa using hp
  have hq' : tmps[q]?.getD undef = v := by simpa using hq
  have hr' : tmps[r]?.getD undef = u := by simpa using hr
  simp [results, h, hp', hq', hr', asAddr, run_loadVar_row w g t ty cs fr d hg hu hd hi]
/-- A whole row read out of memory, by an operation that is guarded and wanted. -/
theorem wpList_load_row_g {ops : Array Oper} {rest : List Oper} {o : Oper} {a : Act} {w : World} {Q : Exit → Act → World → Prop} (hw : Region.wanted o (yielded ops a.tmps) = true) (ty : TypeId) (x : Operand) (ho : o.op = .load ty x)
    (g : Nat) (hx : a.eval x = .pointer (some ⟨g, 0, none⟩)) (t : TypeId) (cs : Array Value) (fr : Nat × Nat) (d : TypeDesc) (hg : w.heap[g]? = some (.cells cs t fr))
    (hu : P.underlying ty = some d) (hd : (match d with | .struct _ | .array _ _ => true | _ => false) = true) (hi : (P.info? ty).map (·.size) = some cs.size)
    (h : wpList P ops Q rest (a.put o.dst (.agg cs)) w) : wpList P ops Q (o :: rest) a w :=
  wpList_step fun K hK => by
    rw [if_pos hw]
    exact wp_load_row ty x ho g hx t cs fr d hg hu hd hi (hK _ _ h)
end
end Go.Proofs.Ytkjimgidlpocbaa

namespace Go.Proofs.Ytkjimgidlpocbaa
open Go.RowKit

theorem getA_zero (L : List Nat) : (getA L 0).1 = (getR 5 L).1 ∧ (getA L 0).2.1 = ((getR 5 L).2.1 : Int) := by
  have h := getA_in (L := L) (a := 0) (by omega) (q := getR 5 L) (by rw [List.drop_zero])
  rw [show ((0 : Nat) : Int) = 0 from rfl] at h
  rw [h]
  by_cases he : (getR 5 L).2.2 = 0
  · rw [if_pos he]
    exact ⟨rfl, by simp⟩
  · rw [if_neg he]
    have := get_err 5 L he
    exact ⟨this.1.symm, by rw [this.2]; rfl⟩
theorem next_lt {L : List Nat} (hb : ∀ x ∈ L, x < 256) : (nextN L).1 < 4294967296 ∧ (getR 5 L).2.1 ≤ L.length := by
  unfold nextN
  by_cases he : (getR 5 L).2.2 = 0
  · have := get_len hb he
    exact ⟨this.2.2, this.2.1⟩
  · have := get_err 5 L he
    rw [this.1, this.2]
    exact ⟨by omega, by omega⟩

/-! ### An entry -/
theorem posR_len : ∀ (n : Nat) (a : Int) (L : List Nat), (posR n a L).1.length = n
  | 0, _, _ => rfl
  | n + 1, a, L => by simp [posR, posR_len n]
theorem ent_info : (Try.prog.info? 51).map (·.size) = some 2 := by kernel_rfl
theorem row_mod {w w' : World} {base size n q : Nat} {e t : TypeId} {v : Value} {xs : List Value} {c : Array Value} (h : w.ownsRow base e size v n xs) (hm : ∀ k, k < w.heap.size → k ≠ q → w'.heap[k]? = w.heap[k]?) (hq : w.heap[q]? = some (.cells c t (0, 0))) (ht : t ≠ e) : w'.ownsRow base e size v n xs := by
  obtain ⟨h0, h1 | ⟨g, cap, cur, h1, h2, h3, h4⟩⟩ := h
  · exact ⟨h0, .inl h1⟩
  · refine ⟨h0, .inr ⟨g, cap, cur, h1, h2, ?_, h4⟩⟩
    rw [hm g (lt_of_heap h3) (fun e' => by
      subst e'
      rw [hq] at h3
      injection h3 with h3
      injection h3 with _ h3
      exact ht h3)]
    exact h3
end Go.Proofs.Ytkjimgidlpocbaa

namespace Go.Proofs.Ytkjimgidlpocbaa
open Go.RowKit

theorem size_word (w : World) : (Go.sizeOf 52).run Try.prog w = .ok 1 w := by kernel_rfl
theorem elem_words : Try.prog.elem 26 = 52 := by kernel_rfl
theorem under_words : Try.prog.underlying 26 = some (.slice (Try.prog.elem 26)) := by rw [elem_words]; exact Try.underlying26
theorem slice32_from {W : World} {oa : Option Addr} {L : List Nat} (n c a m : Nat) (hn : L.length = n) (ha : a + m = n) (hc : n ≤ c) (hm : c ≤ maxLen) (h : ReadN .u32 W oa L) :
    ∃ ob d, (∀ w : World, (Instr.slice 26 (.slice oa n c) (some (.int .i64 (a : Int))) none none).run Try.prog w = .ok (.slice ob m d) w) ∧ m ≤ d ∧ d ≤ maxLen ∧ ReadN .u32 W ob (L.drop a) := by
  refine ⟨if c = a then oa else oa.map (·.add a), c - a, fun w => ?_, by omega, by omega, ?_⟩
  · rw [run_slice_l w 26 oa n c under_words .i64 (a : Int) (by omega) (by omega), elem_words, size_word]
    have e : ((a : Int)).toNat = a := by omega
    have e2 : n - a = m := by omega
    simp [Result.andThen, sliced, e, e2]
  · intro j x hj
    have hj2 : L[a + j]? = some x := by rw [List.getElem?_drop] at hj; exact hj
    have hlt := (List.getElem?_eq_some_iff.1 hj2).1
    obtain ⟨g, o, rfl, hc2⟩ := h _ x hj2
    rw [if_neg (by omega)]
    exact ⟨g, o + a, by rw [Option.map_some, Addr.add_lit], by rw [show o + a + j = o + (a + j) by omega]; exact hc2⟩
/-- A text's bytes as a row of bytes. -/
theorem bytes_of (w : World) (s : ByteArray) (hs : s.size ≤ 1000000) : ∃ cap w', (convert 9 89 (.string s)).run Try.prog w = .ok (.slice (some ⟨w.heap.size, 0, none⟩) s.size cap) w' ∧ w'.heap.size = w.heap.size + 1 ∧ s.size ≤ cap ∧ cap ≤ maxLen ∧ ReadN .u8 w' (some ⟨w.heap.size, 0, none⟩) (bytesL s) ∧ Below w.heap.size w w' := by
  have h := run_bytes_of_string (P := Try.prog) w 9 89 5 s Try.underlying9 Try.underlying89 Try.underlying5
  refine ⟨_, _, h, by simp, grownCap_ge _ _ _ _, grownCap_le_maxLen _ _ _ _ (by unfold maxLen; omega), fun j x hj => ⟨_, _, rfl, ?_⟩, (Below.refl _ _).drew.alloc (Nat.le_refl _) _⟩
  show World.cell? _ ⟨w.drew.heap.size, 0 + j, none⟩ = _
  rw [Lib.cell_of_heap (heap_alloc_new w.drew _)]
  have hlt := (List.getElem?_eq_some_iff.1 hj).1
  rw [bytesL_length] at hlt
  unfold bytesL at hj
  rw [List.getElem?_map] at hj
  obtain ⟨b, hb, rfl⟩ := Option.map_eq_some_iff.1 hj
  have hb2 : s.data[j]? = some b := by simpa using hb
  unfold bytesRow
  rw [Nat.zero_add, Array.getElem?_append_left (by simpa using hlt)]
  simp [hb2]
theorem own_base {w : World} {base base' size n : Nat} {e : TypeId} {v : Value} {xs : List Value} (h : w.ownsRow base e size v n xs) (hb : base' ≤ base) : w.ownsRow base' e size v n xs := by
  obtain ⟨h0, h | ⟨g, cap, cur, k1, k2, k3⟩⟩ := h
  · exact ⟨h0, .inl h⟩
  · exact ⟨h0, .inr ⟨g, cap, cur, k1, Nat.le_trans hb k2, k3⟩⟩
theorem info_ent : (Try.prog.info? 51).map (fun i => (i.zero, i.size, i.bytes)) = some (some (.agg #[.int .i64 0, .slice none 0 0]), 2, 32) := by kernel_rfl
theorem two_cell {w : World} {u v : Value} {t : TypeId} : ∀ (j : Nat) (x : Value), [u, v][j]? = some x → (w.alloc (.cells #[u, v] t)).cell? ((⟨w.heap.size, 0, none⟩ : Addr).add j) = some x := by
  intro j x hj
  rw [Addr.add_lit, Lib.cell_of_heap (heap_alloc_new w _)]
  simpa using hj
theorem OwnE.push_from {W w w8 : World} {base B : Nat} {v v' u : Value} {ps : List Value} {l : List En} {e : En} (hB : B ≤ base) (hbs : B ≤ w.heap.size) (hl : Below B W w) (h0 : ps.length = l.length) (h1 : w.ownsRow base 51 2 v l.length (entC l ps)) (h2 : ∀ (j : Nat) (e : En), l[j]? = some e → ∃ u, ps[j]? = some u ∧ OwnZ w base u e.2)
    (hu : OwnZ w base u e.2) (ho : w8.ownsRow base 51 2 v' (l.length + 1) (entC l ps ++ [.int .i64 e.1, u])) (hg : w.grownBy w8 v.ownBlock) : OwnE w8 base v' (l ++ [e]) ∧ Below B W w8 := by
  refine ⟨⟨ps ++ [u], by simp [h0], ?_, fun j x hj => ?_⟩, hl.grown hg hbs (fun k hk => Nat.le_trans hB (World.ownsRow.lt h1 k hk).1)⟩
  · rw [entC_snoc l ps e u h0, List.length_append]
    exact ho
  · by_cases hj2 : j < l.length
    · rw [List.getElem?_append_left hj2] at hj
      obtain ⟨q, hq, hq2⟩ := h2 j x hj
      exact ⟨q, by rw [List.getElem?_append_left (by omega)]; exact hq, row_grown h1 hg hq2 (by decide)⟩
    · have hjl : j = l.length := by
        have := (List.getElem?_eq_some_iff.1 hj).1
        simp at this
        omega
      subst hjl
      simp at hj
      subst hj
      exact ⟨u, by rw [← h0]; simp, row_grown h1 hg hu (by decide)⟩

theorem OwnE.base {w : World} {base base' : Nat} {v : Value} {l : List En} (h : OwnE w base v l) (hb : base' ≤ base) : OwnE w base' v l := by
  obtain ⟨ps, h1, h2, h3⟩ := h
  refine ⟨ps, h1, own_base h2 hb, fun j e hj => ?_⟩
  obtain ⟨u, h4, h5⟩ := h3 j e hj
  exact ⟨u, h4, own_base h5 hb⟩
theorem all_getD {L : List Nat} {n : Nat} (h : ∀ x ∈ L, x < n) (h0 : 0 < n) : L.getD 0 0 < n := by
  cases L with
  | nil => simpa using h0
  | cons x L => exact h x (by simp)
theorem entR_doc (a : Int) (L : List Nat) (hb : ∀ x ∈ L, x < 256) (h0 : 0 ≤ a) : 0 ≤ (entR a L).1.1 ∧ (entR a L).1.1 ≤ a + 4294967296 := by
  have := (next_lt hb).1
  show 0 ≤ a + ((nextN L).1 : Int) ∧ a + ((nextN L).1 : Int) ≤ _
  omega
theorem posR_rest : ∀ (n : Nat) (a : Int) (L : List Nat), (∀ x ∈ L, x < 256) → ∀ x ∈ (posR n a L).2, x < 256
  | 0, _, _, h => h
  | n + 1, _, _, h => posR_rest n _ _ fun x hx => h x (List.mem_of_mem_drop hx)
theorem entR_rest (a : Int) (L : List Nat) (h : ∀ x ∈ L, x < 256) : ∀ x ∈ (entR a L).2, x < 256 :=
  posR_rest _ _ _ fun x hx => h x (List.mem_of_mem_drop (List.mem_of_mem_drop hx))

end Go.Proofs.Ytkjimgidlpocbaa

namespace Go.Proofs.Ytkjimgidlpocbaa
open Go.RowKit

theorem readR_len : ∀ (m : Nat) (l : List En) (L : List Nat), (readR m l L).length = l.length + m
  | 0, _, _ => rfl
  | m + 1, l, L => by
    rw [readR, readR_len m]
    simp
    omega
theorem readN_len (C : List Nat) : (readN C).length ≤ 64 := by
  unfold readN
  split
  · simp
  · rename_i h
    rw [readR_len]
    unfold badC at h
    simp only [List.length_nil]
    omega
theorem encN_len {l : List En} (h : MayE l) : (encN l).length ≤ 12500 := by
  have := bytesTo_len h l.length (Nat.le_refl _)
  have := h.1
  rw [encN_length]
  omega
theorem encX_len (l : List En) : (encX l).length ≤ 12500 := by
  unfold encX
  split
  · exact encN_len (by assumption)
  · simp

end Go.Proofs.Ytkjimgidlpocbaa
