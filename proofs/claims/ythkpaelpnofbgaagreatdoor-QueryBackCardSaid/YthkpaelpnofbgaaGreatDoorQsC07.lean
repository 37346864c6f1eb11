/-
  How long a tree's text is; how deep the reference says a tree is, and that both say the same of which may be; texts that are cut. No walk.
-/
import Derived.Test.YthkpaelpnofbgaaGreatDoorQsC05
import Derived.Test.YthkpaelpnofbgaaGreatDoorQsC06
import Derived.Test.YthkpaelpnofbgaaGreatDoorQsC04
import Derived.Test.YthkpaelpnofbgaaGreatDoorQsC02
import Derived.Laws.StructEq
import Derived.Test.YthkpaelpnofbgaaGreatDoorRows
import Derived.WalkKit
import Derived.ProofKit
import Derived.OpenShut
import Derived.SizedLaws
import Derived.JoinedCond
import Derived.Deep.CondSized
import Derived.Deep.Slices
import Derived.ChangeSlices
import Derived.ChangeMaps5
import Derived.Deep.AppendLies
namespace Go.Proofs.YthkpaelpnofbgaaGreatDoor

/-! ### Lengths -/
set_option maxRecDepth 100000 in
theorem inter_len : ∀ l : List (List Nat), (interL l).length + 1 ≤ (l.map fun a => a.length + 1).sum + 1
  | [] => by simp [interL]
  | [a] => by simp [interL]
  | a :: b :: l => by
    have ih := inter_len (b :: l)
    rw [interL, List.length_append, List.length_cons, List.map_cons, List.sum_cons]
    omega
set_option maxRecDepth 100000 in
theorem pad_len (f : Int) : ∀ (ts : List Tk) (n : Nat) (last : Int), last < (n : Int) → (n : Int) ≤ last + 1 → mayTs f last ts = true → n ≤ 257 → ((padG bytesL n ts).map fun a => a.length + 1).sum ≤ 2 * (257 - n) + sumT ts
  | [], _, _, _, _, _, _ => by simp [padG]
  | t :: ts, n, last, hn, hn2, h, h257 => by
    rw [mayTs] at h
    simp only [Bool.and_eq_true, decide_eq_true_eq] at h
    obtain ⟨⟨⟨⟨h1, h2⟩, h3⟩, h4⟩, h5⟩ := h
    have ih := pad_len f ts (t.2.2.toNat + 1) t.2.2 (by omega) (by omega) h5 (by omega)
    have e2 : max n t.2.2.toNat = t.2.2.toNat := by omega
    rw [padG, e2, List.map_append, List.sum_append, List.map_replicate, List.map_cons, List.sum_cons, List.sum_replicate_nat, bytesL_length, sumT]
    have : ([97] : List Nat).length = 1 := rfl
    rw [this]
    omega
set_option maxRecDepth 100000 in
theorem leaf_len (f : Int) (ts : List Tk) (h : mayLeafB f ts = true) : (leafG bytesL f ts).length ≤ 520 + sumT ts := by
  have h2 : mayTs f (-1) ts = true := by unfold mayLeafB at h; rw [Bool.and_eq_true] at h; exact h.2
  have hp := pad_len f ts 0 (-1) (by omega) (by omega) h2 (by omega)
  have hi := inter_len (padG bytesL 0 ts)
  unfold leafG
  match ts with
  | [] => simp [padG, interL]; omega
  | [t] => simp [sumT, bytesL_length]; omega
  | a :: b :: ts =>
    simp only [List.length_cons, List.length_append, List.length_nil]
    omega
set_option maxRecDepth 100000 in
theorem wtN_pos (x : Nd) : 1 ≤ wtN x := by cases x; rw [wtN]; omega
set_option maxRecDepth 100000 in
theorem wtK_mem : ∀ {l : List Nd} {x : Nd}, x ∈ l → wtN x ≤ wtK l
  | [], x, h => by simp at h
  | y :: l, x, h => by
    rw [wtK]
    rcases List.mem_cons.1 h with rfl | h
    · omega
    · have := wtK_mem h; omega
set_option maxRecDepth 100000 in
theorem show_len : ∀ (t : Nd) (w : Nat), mayT w t = true → (showB t).length + 10 ≤ 600 * wtN t := by
  refine Nd.induct fun k f ts ks ih w h => ?_
  unfold showB
  rw [mayT] at h
  rw [showG, wtN]
  by_cases hk : k = 1
  · rw [if_pos hk] at h ⊢
    simp only [Bool.and_eq_true] at h
    have := leaf_len f ts h.2
    omega
  · rw [if_neg hk] at h ⊢
    rw [Bool.and_eq_true, mayK_iff] at h
    have key : ∀ (l : List Nd) (first : Bool), (∀ x ∈ l, (showB x).length + 10 ≤ 600 * wtN x) → (showK bytesL k first l).length ≤ 600 * wtK l := by
      intro l
      induction l with
      | nil => intro first _; simp [showK]
      | cons x l ihl =>
        intro first hx
        have h1 := hx x (by simp)
        have h2 := ihl false fun y hy => hx y (by simp [hy])
        have h3 : (if first = true then [] else betw k : List Nat).length ≤ 3 := by
          unfold betw
          by_cases hf : first = true
          · rw [if_pos hf]; simp
          · rw [if_neg hf]
            by_cases h2 : k = 2
            · rw [if_pos h2]; simp
            · rw [if_neg h2]
              by_cases h3 : k = 3
              · rw [if_pos h3]; simp
              · rw [if_neg h3]; simp
        unfold showB at h1
        rw [showK, wtK]
        generalize (if first = true then [] else betw k : List Nat) = A at h3 ⊢
        generalize showK bytesL k false l = B at h2 ⊢
        generalize showG bytesL x = C at h1 ⊢
        cases brk k x.kind
        · simp; omega
        · simp; omega
    have := key ks true fun x hx => ih x hx _ (h.2 x hx).2
    rw [List.length_append]
    split <;> simp <;> omega

/-! ### How deep -/
def okI (k f : Int) (ts : List Tk) (ks : List Nd) : Bool := ((k == 2 || k == 3) && decide (2 ≤ ks.length) || k == 4 && decide (ks.length = 1)) && f == 0 && ts.isEmpty
def okL (f : Int) (ts : List Tk) (ks : List Nd) : Bool := ks.isEmpty && decide (0 ≤ f) && decide (f < 4) && mayLeafB f ts
mutual
def deepZ (left : Nat) : Nd → Int
  | .mk k f ts ks => if left = 0 then 99 else if k = 1 then (if okL f ts ks = true then 0 else 99) else if okI k f ts ks = true then deepM left k 0 ks + (if k = 4 then 1 else 0) else 99
def deepM (left : Nat) (k : Int) (acc : Int) : List Nd → Int
  | [] => acc
  | x :: l => deepM left k (max acc (deepZ (left - 1) x + (if brk k x.kind = true then 1 else 0))) l
end
set_option maxRecDepth 100000 in
theorem deepM_le (left : Nat) (k B : Int) : ∀ (l : List Nd) (acc : Int), deepM left k acc l ≤ B ↔ acc ≤ B ∧ ∀ x ∈ l, deepZ (left - 1) x + (if brk k x.kind = true then 1 else 0) ≤ B
  | [], acc => by simp [deepM]
  | x :: l, acc => by
    rw [deepM, deepM_le left k B l]
    simp only [List.mem_cons, forall_eq_or_imp]
    constructor
    · rintro ⟨h1, h2⟩; exact ⟨by omega, by omega, h2⟩
    · rintro ⟨h1, h2, h3⟩; exact ⟨by omega, h3⟩
set_option maxRecDepth 100000 in
theorem deepM_ge (left : Nat) (k : Int) : ∀ (l : List Nd) (acc : Int), acc ≤ deepM left k acc l
  | [], acc => by simp [deepM]
  | x :: l, acc => by
    have := deepM_ge left k l (max acc (deepZ (left - 1) x + (if brk k x.kind = true then 1 else 0)))
    rw [deepM]
    omega
set_option maxRecDepth 100000 in
theorem deepZ_pos (left : Nat) (x : Nd) : 0 ≤ deepZ left x := by
  cases x with
  | mk k f ts ks =>
    rw [deepZ]
    have := deepM_ge left k ks 0
    split
    · omega
    · split
      · split <;> omega
      · split
        · split <;> omega
        · omega
set_option maxRecDepth 100000 in
theorem deepM_room (left : Nat) (k M : Int) (hM : 99 ≤ M) (ih : ∀ x, deepZ (left - 1) x ≤ M) : ∀ (l : List Nd) (acc : Int), acc ≤ M + 1 → deepM left k acc l ≤ M + 1
  | [], acc, h => by rw [deepM]; exact h
  | x :: l, acc, h => by
    rw [deepM]
    refine deepM_room left k M hM ih l _ ?_
    have := ih x
    split <;> omega
set_option maxRecDepth 100000 in
theorem deepZ_room : ∀ (left : Nat) (x : Nd), deepZ left x ≤ 99 + 2 * (left : Int)
  | 0, x => by cases x; rw [deepZ, if_pos rfl]; omega
  | left + 1, x => by
    cases x with
    | mk k f ts ks =>
      have := deepM_room (left + 1) k (99 + 2 * (left : Int)) (by omega) (fun y => by rw [Nat.add_sub_cancel]; exact deepZ_room left y) ks 0 (by omega)
      rw [deepZ, if_neg (by omega)]
      split
      · split <;> omega
      · split
        · split <;> omega
        · omega
set_option maxRecDepth 100000 in
theorem may_deep : ∀ (x : Nd) (left w : Nat), w ≤ 8 → deepZ left x ≤ 8 - (w : Int) → mayT w x = true := by
  refine Nd.induct fun k f ts ks ih left w hw h => ?_
  rw [deepZ] at h
  rw [mayT]
  by_cases hl : left = 0
  · rw [if_pos hl] at h; omega
  · rw [if_neg hl] at h
    by_cases hk : k = 1
    · rw [if_pos hk] at h ⊢
      by_cases ho : okL f ts ks = true
      · exact ho
      · rw [if_neg ho] at h; omega
    · rw [if_neg hk] at h ⊢
      by_cases ho : okI k f ts ks = true
      · rw [if_pos ho] at h
        have hm : deepM left k 0 ks ≤ 8 - (w : Int) - (if k = 4 then 1 else 0) := by omega
        rw [deepM_le] at hm
        rw [Bool.and_eq_true, mayK_iff]
        refine ⟨ho, fun x hx => ?_⟩
        have h2 := hm.2 x hx
        have h3 := deepZ_pos (left - 1) x
        have hle : (if brk k x.kind = true then (if k = 4 then w + 1 else w) + 1 else (if k = 4 then w + 1 else w)) ≤ 8 := by
          revert h2
          cases brk k x.kind <;> by_cases h4 : k = 4 <;> simp [h4] <;> omega
        refine ⟨hle, ih x hx (left - 1) _ hle ?_⟩
        revert h2
        cases brk k x.kind <;> by_cases h4 : k = 4 <;> simp [h4] <;> omega
      · rw [if_neg ho] at h; omega
def needK (w : Nat) (k : Int) : Nat := 2 * (8 - w) + (if k = 3 then 3 else if k = 2 then 2 else 1)
set_option maxRecDepth 100000 in
theorem deep_may : ∀ (x : Nd) (left w : Nat), w ≤ 8 → needK w x.kind ≤ left → mayT w x = true → deepZ left x ≤ 8 - (w : Int) := by
  refine Nd.induct fun k f ts ks ih left w hw hn h => ?_
  rw [mayT] at h
  rw [deepZ]
  have hn' : needK w k ≤ left := hn
  have hl : ¬ left = 0 := by unfold needK at hn'; revert hn'; split <;> (try split) <;> omega
  rw [if_neg hl]
  by_cases hk : k = 1
  · rw [if_pos hk] at h ⊢
    rw [if_pos (show okL f ts ks = true from h)]; omega
  · rw [if_neg hk] at h ⊢
    rw [Bool.and_eq_true, mayK_iff] at h
    rw [if_pos (show okI k f ts ks = true from h.1)]
    have hm : deepM left k 0 ks ≤ 8 - (w : Int) - (if k = 4 then 1 else 0) := by
      rw [deepM_le]
      refine ⟨?_, fun x hx => ?_⟩
      · split
        · rename_i h4
          obtain ⟨x, hx⟩ : ∃ x, x ∈ ks := by
            have : ks.length = 1 := by have h1 := h.1; subst h4; simp at h1; exact h1.1.1
            cases ks with | nil => simp at this | cons y l => exact ⟨y, by simp⟩
          have := (h.2 x hx).1
          rw [if_pos h4] at this
          split at this <;> omega
        · omega
      · obtain ⟨h1, h2⟩ := h.2 x hx
        have hkk := mayT_kind h2
        have hk3 : k = 2 ∨ k = 3 ∨ k = 4 := by
          have h0 := h.1
          simp at h0
          omega
        have hm := ih x hx (left - 1) _ h1 (by
          unfold needK at hn' ⊢
          revert h1 hn'
          rcases hkk with e | e | e | e <;> rcases hk3 with rfl | rfl | rfl <;> rw [e] <;> unfold brk <;> simp <;> omega) h2
        revert hm h1
        cases brk k x.kind <;> by_cases h4 : k = 4 <;> simp [h4] <;> omega
    omega
set_option maxRecDepth 100000 in
theorem deep_is (x : Nd) : decide (deepZ 40 x ≤ 8) = mayT 0 x := by
  rw [Bool.eq_iff_iff, decide_eq_true_eq]
  refine ⟨fun h => may_deep x 40 0 (by omega) (by simpa using h), fun h => ?_⟩
  have := deep_may x 40 0 (by omega) (by unfold needK; split <;> (try split) <;> omega) h
  simpa using this
end Go.Proofs.YthkpaelpnofbgaaGreatDoor
/-
  The reference of layer 6: are two rows of words the same. Over the program's own text.
-/
namespace Go.Proofs.YthkpaelpnofbgaaGreatDoor
open Go.RowKit

set_option maxRecDepth 100000 in
theorem eq_tok (f g p q : Int) (s t : ByteArray) (w : World) : (Op.equalIn 10000 43 (.agg #[.int .u8 f, .string s, .int .i64 p]) (.agg #[.int .u8 g, .string t, .int .i64 q])).run Tryz.prog w = .ok (f == g && (s.toList == t.toList && p == q)) w := by
  have u5 := Tryz.underlying5
  have a5 := Tryz.isAgg5
  have z5 := Tryz.sizeOf5
  have u9 := Tryz.underlying9
  have a9 := Tryz.isAgg9
  have z9 := Tryz.sizeOf9
  have u3 := Tryz.underlying3
  have a3 := Tryz.isAgg3
  have z3 := Tryz.sizeOf3
  have hS : Tryz.prog.underlying 43 = some (.struct (Tryz.prog.fieldsOf 43)) := by kernel_rfl
  rw [show (10000 : Nat) = 9999 + 1 from rfl, run_equalIn_agg w 9999 43 _ _ hS (by kernel_rfl)]
  simp only [Program.fieldsOf, Tryz.underlying43]
  cases h1 : (f == g)
  · go_simp
  · go_simp
    by_cases hs : s.toList = t.toList <;> by_cases hp : p = q <;> simp [hs, hp]
set_option maxRecDepth 100000 in
theorem eq_tok_of (x y : Tk) (w : World) : (Op.equalIn 10000 43 (.agg #[.int .u8 x.1, .string x.2.1, .int .i64 x.2.2]) (.agg #[.int .u8 y.1, .string y.2.1, .int .i64 y.2.2])).run Tryz.prog w = .ok (decide (x = y)) w := by
  obtain ⟨f, s, p⟩ := x
  obtain ⟨g, t, q⟩ := y
  rw [eq_tok]
  congr 1
  have hs : (s.toList == t.toList) = decide (s = t) := by
    by_cases h : s = t
    · subst h; simp
    · rw [list_ne h]; simp [h]
  rw [hs]
  by_cases h1 : f = g <;> by_cases h2 : s = t <;> by_cases h3 : p = q <;> simp [h1, h2, h3]

set_option maxRecDepth 100000 in
set_option maxHeartbeats 2000000 in
theorem same_toks (w : World) (oa ob : Option Addr) (ca cb : Nat) (A B : List Tk) (ha : ReadT w oa A) (hb : ReadT w ob B) (hn : A.length ≤ 1000000) :
    Calls Tryz.prog 13 #[.slice oa A.length ca, .slice ob B.length cb] w fun e w' => e = .returned (.bool (decide (A = B))) ∧ Below w.heap.size w w' := by
  have HA := Lib.hid ha
  have HB := Lib.hid hb
  clear ha hb
  by_cases hl : A.length = B.length
  · have hI : (A.length : Int) = (B.length : Int) := by omega
    have HL := Lib.hid hl
    clear hl
    go_enter Tryz.func13, Tryz.ntmps13
    go_wp2_with fail
    go_loopw [13] (fun iv wr => ∃ i : Nat, i ≤ A.length ∧ iv = .int .i64 i ∧ Hid (A.take i = B.take i) ∧ ∃ m, wr = w.drewN m) (fun i _ => A.length - (intOf i).toNat)
    case atStart => exact ⟨0, by omega, rfl, Lib.hid rfl, 0, rfl⟩
    case round =>
      obtain ⟨i, hi, rfl, HT, m, rfl⟩ := hrel
      by_cases hlt : i < A.length
      · obtain ⟨x, hx⟩ : ∃ x, A[i]? = some x := ⟨_, List.getElem?_eq_getElem hlt⟩
        obtain ⟨y, hy⟩ : ∃ y, B[i]? = some y := ⟨_, List.getElem?_eq_getElem (by have := HL.out; omega)⟩
        obtain ⟨gx, ox, rfl, x0, x1, x2⟩ := HA.out i x hx
        obtain ⟨gy, oy, rfl, y0, y1, y2⟩ := HB.out i y hy
        have hlt1 : (i : Int) < (A.length : Int) := by omega
        have hlt2 : (i : Int) < (B.length : Int) := by omega
        have HX := Lib.hid (And.intro hx hy)
        have heq := eq_tok_of x y
        clear hx hy
        by_cases hxy : x = y
        · rw [decide_eq_true hxy] at heq
          have HXY := Lib.hid hxy
          obtain ⟨f, s, p⟩ := x
          obtain ⟨g, t, q⟩ := y
          simp only at x0 x1 x2 y0 y1 y2 heq
          clear hxy
          go_wp2_with fail
          go_quiet (fail)
          go_wp2_with fail
          go_roundw
          case rel => exact ⟨i + 1, by omega, by go_num, Lib.hid (by rw [List.take_add_one, List.take_add_one, HX.out.1, HX.out.2, HT.out, HXY.out]), _, rfl⟩
          case measure => simp [intOf]; omega
        · rw [decide_eq_false hxy] at heq
          have HXY := Lib.hid hxy
          have HD := Lib.hid (show A ≠ B from fun e => hxy (by have := HX.out.1; rw [e, HX.out.2] at this; simpa using this.symm))
          obtain ⟨f, s, p⟩ := x
          obtain ⟨g, t, q⟩ := y
          simp only at x0 x1 x2 y0 y1 y2 heq
          clear hxy
          go_wp2_with fail
          go_quiet (fail)
          go_wp2_with fail
          go_ret
          have := HD.out
          exact ⟨by simp [this], below_drawn (below_drawn (Below.refl _ _) _) _⟩
      · go_wp2_with fail
        go_ret
        have : A = B := by
          have := HT.out
          rwa [List.take_of_length_le (by omega), List.take_of_length_le (by have := HL.out; omega)] at this
        exact ⟨by simp [this], below_drawn (Below.refl _ _) _⟩
  · have hI : (A.length : Int) ≠ (B.length : Int) := by omega
    have : A ≠ B := fun e => hl (by rw [e])
    have HD := Lib.hid this
    clear hl this
    go_enter Tryz.func13, Tryz.ntmps13
    go_wp2_with fail
    go_ret
    have := HD.out
    exact ⟨by simp [this], Below.refl _ _⟩
end Go.Proofs.YthkpaelpnofbgaaGreatDoor
/-
  The frame that all laws of a seat share, over any program: a law that returns true and only makes memory of its own meets its row. Nothing of one law stands here.
-/
namespace Go.Proofs.YthkpaelpnofbgaaGreatDoor
open Go.ChangeShapes Go.WideShapes Go.ChangeAt Go.RowKit

section
variable {H : Type} {enc : TypeId × Value → H} {P : Program}

set_option maxRecDepth 100000 in
/-- Arguments that are read ahead of a call read the same behind it, where nothing below has turned. -/
theorem trodAll_below (hl : laidOutB P = true) {W W' : World} (hb : Below W.heap.size W W') : ∀ (ts : List TypeId) (vs : List Value) (ds : List (DataW H)) (ps : List MemPlace),
    (ts.all fun t => P.readableRec t && decide (t < P.types.size)) = true → DataW.TrodAll enc P W 0 (fun _ => true) true ts vs ds ps → (∀ x ∈ ps, x.block < W.heap.size) →
    DataW.TrodAll enc P W' 0 (fun b => decide (b < W.heap.size)) true ts vs ds ps
  | [], vs, ds, ps, _, h, _ => by
    obtain ⟨rfl, rfl, rfl⟩ := trodAll_nil h
    exact trodAll_mk0
  | t :: ts, vs, ds, ps, hr, h, hlt => by
    obtain ⟨v, vs', d, ds', p, q, rfl, rfl, rfl, h0, r0⟩ := trodAll_cons h
    simp only [List.all_cons, Bool.and_eq_true, decide_eq_true_eq] at hr
    exact trodAll_cons_mk (Below.trod hl hr.1.1 hr.1.2 h0 hb fun x hx => hlt x (List.mem_append_left _ hx)) (trodAll_below hl hb ts vs' ds' q hr.2 r0 fun x hx => hlt x (List.mem_append_right _ hx))

set_option maxRecDepth 100000 in
/-- What a row's post asks, for a law: it returned true, and nothing that was there has turned. -/
theorem law_post {f : Func} {s : ChangeSpec} {tb : TypeId} {W W' : World} {args : Array Value} {ds gs : List (DataW H)} {before : List MemPlace}
    (hl : laidOutB P = true) (hr : (f.params.toList.all fun t => P.readableRec t && decide (t < P.types.size)) = true) (hres : f.resultTypes = #[tb]) (hub : P.underlying tb = some .bool) (hvars : s.vars = [])
    (hW : DataW.Whole enc P f.params.toList s.vars false W args.toList ds gs before) (hs : s.fn H (ds ++ gs) = { results := [.lit (.bool true)], args := ds })
    (hb : Below W.heap.size W W') : s.post enc P f false true false false W args (.bool true) W' := by
  have hW' := hW
  obtain ⟨p, q, hA, hV, rfl, hfz, hnd⟩ := hW
  rw [hvars] at hV
  obtain ⟨rfl, rfl⟩ := trodVars_none hV
  refine ⟨ds, [], p ++ [], [], p, [], hW', ?_, ?_, ?_, hb.frame _, fun h => by cases h⟩
  · rw [hs, hres]
    exact trodAll_mk1 (shut_bool hub true)
  · rw [hs]
    exact trodAll_below hl hb _ _ _ _ hr hA fun x hx => hW'.lt x (by simpa using hx)
  · rw [hs, hvars]
    exact rfl

/-- The arguments of a law's call, as a walk wants them: each reads, each is a value of its type, and none is greater than a machine has room for. -/
structure ArgsIn (enc : TypeId × Value → H) (P : Program) (ts : List TypeId) (W : World) (args : Array Value) (ds : List (DataW H)) : Prop where
  trod : ∃ p, DataW.TrodAll enc P W 0 (fun _ => true) true ts args.toList ds p ∧ ∀ x ∈ p, x.block < W.heap.size
  ok : ∃ base, ∀ (j : Nat) (t : TypeId) (v : Value), ts[j]? = some t → args[j]? = some v → Value.okWide P W .any base t v
  size : (DataW.weightsEach P ts ds).all (· ≤ reachBytes) = true

set_option maxRecDepth 100000 in
theorem ArgsIn.of_whole {f : Func} {s : ChangeSpec} {W : World} {base : Nat} {args : Array Value} {ds gs : List (DataW H)} {before : List MemPlace} (hvars : s.vars = [])
    (hval : ∀ (j : Nat) t v, f.params[j]? = some t → args[j]? = some v → Value.okWide P W .any base t v)
    (hW : DataW.Whole enc P f.params.toList s.vars false W args.toList ds gs before) (hsz : (DataW.weightsEach P (f.params.toList ++ s.plain.varTypes P) (ds ++ gs)).all (· ≤ reachBytes) = true) :
    ArgsIn enc P f.params.toList W args ds := by
  have hW' := hW
  obtain ⟨p, q, hA, hV, rfl, hfz, hnd⟩ := hW
  rw [hvars] at hV
  obtain ⟨rfl, rfl⟩ := trodVars_none hV
  refine ⟨⟨p, hA, fun x hx => hW'.lt x (by simpa using hx)⟩, ⟨base, fun j t v ht hv => hval j t v (by simpa using ht) hv⟩, ?_⟩
  have e : s.plain.varTypes P = [] := by
    unfold ChangeSpec.plain
    simp [hvars, DataSpec.varTypes]
  rw [e] at hsz
  simpa using hsz

set_option maxRecDepth 100000 in
/-- A LAW's FIRST FORM, BUT FOR THE WALK. -/
theorem law_lifted {C : Checked} {os : Os} {F : FuncId} {f : Func} {s : ChangeSpec} {tb : TypeId} {conds : List PathCond} (own : ownKnob C.prog.godebug = none) (started : os.Started) (noInit : C.prog.inits.idxOf? F = none)
    (hfn : C.prog.funcs[F]? = some f) (hl : laidOutB C.prog = true) (hr : (f.params.toList.all fun t => C.prog.readableRec t && decide (t < C.prog.types.size)) = true) (hres : f.resultTypes = #[tb])
    (hub : C.prog.underlying tb = some .bool) (hvars : s.vars = [])
    (witness : ∃ (w : World) (tape : Tape) (i : Input), w.os = os ∧ (w.forCall tape i).Shaped C.prog ∧ i.vars = [] ∧ Input.okWide C.prog (w.forCall tape i) .any w.heap.size F i ∧
      s.pre6 enc C.prog f conds false (w.forCall tape i).memory i.args ∧ ({} : Assume).holds C.prog (lone (Frame.enter C.prog F i.args .normal) [] (w.forCall tape i)))
    (hs : ∀ ds : List (DataW H), ds.length = f.params.size → s.fn H ds = { results := [.lit (.bool true)], args := ds })
    (walk : ∀ (W : World) (args : Array Value) (ds : List (DataW H)), ArgsIn enc C.prog f.params.toList W args ds → Calls C.prog F args W fun e W' => e = .returned (.bool true) ∧ Below W.heap.size W W') :
    ReturnsInHanded {} C os F .any (s.pre6 enc C.prog f conds false) (s.post enc C.prog f false true false false) := by
  refine returnsInHanded_of_change_sized (C := C) own started noInit hfn witness ?_
  intro W base args ds gs before hval hW _ hsz _
  refine (walk W args ds (ArgsIn.of_whole hvars hval hW hsz)).mono fun e W' ⟨he, hb⟩ => ⟨_, he, ?_⟩
  refine law_post hl hr hres hub hvars hW ?_ hb
  obtain ⟨p, q, hA, hV, _⟩ := hW
  rw [hvars] at hV
  obtain ⟨rfl, rfl⟩ := trodVars_none hV
  rw [List.append_nil]
  exact hs ds (by rw [← trodAll_len hA]; simp)
where
  trodAll_len {w : World} {ts : List TypeId} {vs : List Value} {ds : List (DataW H)} {ps : List MemPlace} {b : Nat} {sp : Nat → Bool} {hd : Bool} (h : DataW.TrodAll enc C.prog w b sp hd ts vs ds ps) : ts.length = ds.length := by
    induction ts generalizing vs ds ps with
    | nil => obtain ⟨_, rfl, _⟩ := trodAll_nil h; rfl
    | cons t ts ih =>
      obtain ⟨v, vs', d, ds', p, q, rfl, rfl, rfl, h0, r0⟩ := trodAll_cons h
      simp [ih r0]
end

set_option maxRecDepth 100000 in
theorem own : ownKnob Tryz.prog.godebug = none := by kernel_rfl
set_option maxRecDepth 100000 in
theorem laidOut : laidOutB Tryz.prog = true := by kernel_rfl
/-! ### What fits its kind -/
set_option maxRecDepth 100000 in
theorem u16_lo {x : Int} (w : (Lit.int .u16 x).wf = true) : 0 ≤ x := by simp [Lit.wf, IntKind.min, IntKind.max, IntKind.signed, IntKind.bits] at w; omega
set_option maxRecDepth 100000 in
theorem u16_hi {x : Int} (w : (Lit.int .u16 x).wf = true) : x ≤ 65535 := by simp [Lit.wf, IntKind.min, IntKind.max, IntKind.signed, IntKind.bits] at w; omega
set_option maxRecDepth 100000 in
theorem u8_lo {x : Int} (w : (Lit.int .u8 x).wf = true) : 0 ≤ x := by simp [Lit.wf, IntKind.min, IntKind.max, IntKind.signed, IntKind.bits] at w; omega
set_option maxRecDepth 100000 in
theorem u8_hi {x : Int} (w : (Lit.int .u8 x).wf = true) : x ≤ 255 := by simp [Lit.wf, IntKind.min, IntKind.max, IntKind.signed, IntKind.bits] at w; omega
set_option maxRecDepth 100000 in
theorem u32_lo {x : Int} (w : (Lit.int .u32 x).wf = true) : 0 ≤ x := by simp [Lit.wf, IntKind.min, IntKind.max, IntKind.signed, IntKind.bits] at w; omega
set_option maxRecDepth 100000 in
theorem u32_hi {x : Int} (w : (Lit.int .u32 x).wf = true) : x ≤ 4294967295 := by simp [Lit.wf, IntKind.min, IntKind.max, IntKind.signed, IntKind.bits] at w; omega
set_option maxRecDepth 100000 in
theorem i32_lo {x : Int} (w : (Lit.int .i32 x).wf = true) : -2147483648 ≤ x := by simp [Lit.wf, IntKind.min, IntKind.max, IntKind.signed, IntKind.bits] at w; omega
set_option maxRecDepth 100000 in
theorem i32_hi {x : Int} (w : (Lit.int .i32 x).wf = true) : x ≤ 2147483647 := by simp [Lit.wf, IntKind.min, IntKind.max, IntKind.signed, IntKind.bits] at w; omega
set_option maxRecDepth 100000 in
theorem i64_lo {x : Int} (w : (Lit.int .i64 x).wf = true) : -9223372036854775808 ≤ x := by simp [Lit.wf, IntKind.min, IntKind.max, IntKind.signed, IntKind.bits] at w; omega
set_option maxRecDepth 100000 in
theorem i64_hi {x : Int} (w : (Lit.int .i64 x).wf = true) : x ≤ 9223372036854775807 := by simp [Lit.wf, IntKind.min, IntKind.max, IntKind.signed, IntKind.bits] at w; omega
end Go.Proofs.YthkpaelpnofbgaaGreatDoor
/-
  Words on what comes in, over any seat's program: cells of structs and arrays by value, cells of a list's elements.
-/
namespace Go.Proofs.YthkpaelpnofbgaaGreatDoor
open Go.ChangeShapes Go.WideShapes Go.ChangeAt Go.RowKit Go.Deep

set_option maxRecDepth 100000 in
theorem lt_of_cell {W : World} {a : Addr} {v : Value} (h : W.cell? a = some v) : a.block < W.heap.size := by
  unfold World.cell? at h
  split at h
  · rename_i hh; exact (Array.getElem?_eq_some_iff.1 hh).1
  · cases h
set_option maxRecDepth 100000 in
theorem plain_of_cell {W : World} {a : Addr} {v : Value} (h : W.cell? a = some v) : a.spot = none := by
  unfold World.cell? at h
  split at h
  · split at h
    · cases h
    · rename_i hs; simpa using hs
  · cases h

set_option maxRecDepth 100000 in
theorem agg_cells {W : World} {base : Nat} {t : TypeId} {v : Value} (hu : (match Tryz.prog.underlying t with | some (.struct _) | some (.array _ _) => true | _ => false) = true) (h : Value.okWide Tryz.prog W .any base t v) {ts : List TypeId} (hts : Tryz.prog.cellTypes Tryz.prog.depth t = some ts) :
    ∃ cs, v = .agg cs ∧ cs.size = Tryz.prog.cellsOf t ∧ ∀ (i : Nat) (c : Value) (u : TypeId), cs[i]? = some c → ts[i]? = some u → Cell.okWide Tryz.prog W .any base u c := by
  have key : ∃ cs, v = .agg cs ∧ cs.size = Tryz.prog.cellsOf t ∧ Row.okWide Tryz.prog W .any base t cs := by
    unfold Value.okWide at h
    split at h
    · exact h
    · exact h
    · rename_i h1 h2
      split at hu
      · rename_i fs hf; exact absurd hf (h1 fs)
      · rename_i n e hf; exact absurd hf (h2 n e)
      · cases hu
  obtain ⟨cs, hv, hs, ts', hts', _, hc⟩ := key
  obtain rfl : ts = ts' := Option.some.inj (hts.symm.trans hts')
  refine ⟨cs, hv, hs, fun i c u hi ht => ?_⟩
  obtain ⟨u', hu', hc'⟩ := hc i c hi
  have hlt : i < ts.length := (List.getElem?_eq_some_iff.1 ht).1
  rw [Nat.mod_eq_of_lt hlt, ht] at hu'
  obtain rfl : u = u' := Option.some.inj hu'
  exact hc'

set_option maxRecDepth 100000 in
theorem cell_int {W : World} {base : Nat} {u : TypeId} {c : Value} {k : IntKind} (hu : Tryz.prog.underlying u = some (.int k)) (h : Cell.okWide Tryz.prog W .any base u c) : ∃ n, c = .int k n ∧ k.min ≤ n ∧ n ≤ k.max := by
  simp only [hu, Cell.okWide] at h
  cases c <;> simp_all [Cell.ok, IntKind.has]
set_option maxRecDepth 100000 in
theorem cell_float {W : World} {base : Nat} {u : TypeId} {c : Value} {k : FloatKind} (hu : Tryz.prog.underlying u = some (.float k)) (h : Cell.okWide Tryz.prog W .any base u c) : ∃ b, c = .float k b := by
  simp only [hu, Cell.okWide] at h
  cases c <;> simp_all [Cell.ok]

end Go.Proofs.YthkpaelpnofbgaaGreatDoor
/-
  Rows of texts that are read; a list of texts that comes in.
-/
namespace Go.Proofs.YthkpaelpnofbgaaGreatDoor
open Go.ChangeShapes Go.WideShapes Go.ChangeAt Go.RowKit Go.Deep

/-- Texts, one behind the other, from an address on. -/
def ReadS (w : World) (oa : Option Addr) (F : List ByteArray) : Prop := ∀ (j : Nat) (x : ByteArray), F[j]? = some x → ∃ g o : Nat, oa = some ⟨g, o, none⟩ ∧ w.cell? ⟨g, o + j, none⟩ = some (.string x)
set_option maxRecDepth 100000 in
theorem ReadS.below {w w' : World} {oa : Option Addr} {F : List ByteArray} (h : ReadS w oa F) (hb : Below w.heap.size w w') : ReadS w' oa F := fun j x hj => by
  obtain ⟨g, o, h0, h1⟩ := h j x hj
  exact ⟨g, o, h0, below_cell h1 hb⟩
set_option maxRecDepth 100000 in
theorem cell_plain {w : World} {a : Addr} {v : Value} (h : w.cell? a = some v) : ∃ g o, a = ⟨g, o, none⟩ := by
  obtain ⟨g, o, q⟩ := a
  cases q with
  | none => exact ⟨g, o, rfl⟩
  | some q =>
    simp only [World.cell?] at h
    split at h <;> simp_all
set_option maxRecDepth 100000 in
theorem open_texts {H : Type} {enc : TypeId × Value → H} {W : World} {v : Value} {d : DataW H} {p : List MemPlace} {base : Nat}
    (hv : Value.okWide Tryz.prog W .any base 65 v) (h : DataW.Trod enc Tryz.prog W 0 (fun _ => true) true 65 v d p) :
    ∃ ao F cap, v = .slice ao F.length cap ∧ ReadS W ao F ∧ F.length ≤ cap ∧ cap ≤ maxLen ∧ ∀ x ∈ F, (x.size : Int) ≤ 9223372036854775807 := by
  obtain ⟨a, len, cap, rfl⟩ := okWide_slice Tryz.underlying65 hv
  obtain ⟨fuel, hf⟩ := h
  rcases DataW.trod_slice Tryz.underlying65 hf with ⟨hcs, _⟩ | ⟨a', len', cap', elems, rest, m, rfl, hcs, _, hb, hl, hm, hlen, hel, _, _⟩
  · simp only [Value.cells, List.cons.injEq, and_true, Value.slice.injEq] at hcs
    obtain ⟨rfl, rfl, rfl⟩ := hcs
    exact ⟨none, [], 0, rfl, fun j r hj => by simp at hj, by simp, by simp [maxLen], by simp⟩
  · simp only [Value.cells, List.cons.injEq, and_true, Value.slice.injEq] at hcs
    obtain ⟨rfl, rfl, rfl⟩ := hcs
    have hc1 : Tryz.prog.cellsOf 9 = 1 := by kernel_rfl
    have each : ∀ i, i < len → ∃ s : ByteArray, W.cell? (a'.add i) = some (.string s) ∧ s.size ≤ maxLen := by
      intro i hi
      have h5 := hel i hi
      rw [List.getElem?_eq_getElem (by omega), hc1, Nat.mul_one] at h5
      obtain ⟨cs2, hc2, h6⟩ := Option.bind_eq_some_iff.1 h5
      obtain ⟨_, hn, hcells⟩ := World.cells?_some hc2
      obtain ⟨s, rfl, _, hs⟩ := DataW.trod_string Tryz.underlying9 h6
      have := hcells 0 (by omega)
      rw [Addr.add_add, Nat.add_zero] at this
      exact ⟨s, by simpa using this, hs⟩
    let F := (List.range len).pmap (fun i hi => Classical.choose (each i hi)) (fun i hi => List.mem_range.1 hi)
    have hFl : F.length = len := by simp [F]
    have hget : ∀ j x, F[j]? = some x → W.cell? (a'.add j) = some (.string x) ∧ x.size ≤ maxLen := by
      intro j x hj
      obtain ⟨hj1, hj2⟩ := List.getElem?_eq_some_iff.1 hj
      simp only [F, List.getElem_pmap, List.getElem_range] at hj2
      subst hj2
      exact Classical.choose_spec (each j (by omega))
    refine ⟨some a', F, cap, by rw [hFl], fun j x hj => ?_, by omega, hm, fun x hx => ?_⟩
    · have hc := (hget j x hj).1
      obtain ⟨g, o, he⟩ : ∃ g o, a' = ⟨g, o, none⟩ := by
        obtain ⟨s0, h0, _⟩ := each 0 (by have := (List.getElem?_eq_some_iff.1 hj).1; omega)
        rw [show a'.add 0 = a' by simp [Addr.add]] at h0
        exact cell_plain h0
      subst he
      refine ⟨g, o, rfl, ?_⟩
      rwa [Addr.add_lit] at hc
    · obtain ⟨j, hj⟩ := List.getElem?_of_mem hx
      have := (hget j x hj).2
      unfold maxLen at this
      omega
set_option maxRecDepth 100000 in
theorem size_int {s : ByteArray} (h : s.size ≤ maxLen) : (s.size : Int) ≤ 9223372036854775807 := by unfold maxLen at h; omega
end Go.Proofs.YthkpaelpnofbgaaGreatDoor
/-
  The reference of layer 6: the words of a document's fields. Over the program's own text.
-/
namespace Go.Proofs.YthkpaelpnofbgaaGreatDoor
open Go.RowKit

/-- All fields' words, each with its field's number. -/
def fieldsF : Nat → List ByteArray → List Tk
  | _, [] => []
  | n, x :: F => toksP (n : Int) (wordsT x) ++ fieldsF (n + 1) F
def fieldsT (F : List ByteArray) : List Tk := fieldsF 0 F
def longF (F : List ByteArray) : Prop := 4 < F.length ∨ ∃ x ∈ F, 512 < x.size
instance (F : List ByteArray) : Decidable (longF F) := by unfold longF; exact inferInstance
def badF (F : List ByteArray) : Prop := longF F ∨ 64 < (fieldsT F).length
instance (F : List ByteArray) : Decidable (badF F) := by unfold badF; exact inferInstance
def docL (F : List ByteArray) : List Tk := if badF F then [] else fieldsT F
def docE (F : List ByteArray) : Int := if badF F then 4 else 0
set_option maxRecDepth 100000 in
theorem fieldsF_snoc : ∀ (F : List ByteArray) (n : Nat) (x : ByteArray), fieldsF n (F ++ [x]) = fieldsF n F ++ toksP ((n + F.length : Nat) : Int) (wordsT x)
  | [], n, x => by simp [fieldsF]
  | y :: F, n, x => by
    rw [List.cons_append, fieldsF, fieldsF, fieldsF_snoc F (n + 1) x, List.append_assoc, List.length_cons, show n + 1 + F.length = n + (F.length + 1) by omega]
set_option maxRecDepth 100000 in
theorem words_le (s : ByteArray) : (wordsT s).length ≤ s.size + 1 := Nat.le_trans (places_len _ _) (allT_le s)
set_option maxRecDepth 100000 in
theorem fieldsF_le (m : Nat) : ∀ (F : List ByteArray) (n : Nat), (∀ x ∈ F, x.size ≤ m) → (fieldsF n F).length ≤ F.length * (m + 1)
  | [], _, _ => by simp [fieldsF]
  | x :: F, n, h => by
    have h1 := words_le x
    have h2 := h x (by simp)
    have h3 := fieldsF_le m F (n + 1) fun y hy => h y (by simp [hy])
    rw [fieldsF, List.length_append, toksP_length, List.length_cons, Nat.succ_mul]
    omega

/-- A word more behind a row of words: where it lies, and that what is another row's stays. -/
structure Two (W : World) (b2 : Nat) (vo vl : Value) (A B : List Tk) (w : World) : Prop where
  out : ToksIn w W.heap.size vo A
  lst : ToksIn w b2 vl B
  ne : vo.ownBlock = none ∨ vl.ownBlock = none ∨ vo.ownBlock ≠ vl.ownBlock
  b : W.heap.size ≤ b2
  low : Below W.heap.size W w
set_option maxRecDepth 100000 in
theorem Two.alloc {W : World} {b2 : Nat} {vo vl : Value} {A B : List Tk} {w : World} (h : Two W b2 vo vl A B w) (o : Obj) : Two W b2 vo vl A B (w.alloc o) :=
  ⟨World.ownsRow.alloc h.out o, World.ownsRow.alloc h.lst o, h.ne, h.b, h.low.alloc h.low.size o⟩
set_option maxRecDepth 100000 in
theorem Two.drew {W : World} {b2 : Nat} {vo vl : Value} {A B : List Tk} {w : World} (h : Two W b2 vo vl A B w) : Two W b2 vo vl A B w.drew := ⟨h.out, h.lst, h.ne, h.b, h.low.drew⟩
set_option maxRecDepth 100000 in
theorem Two.more {W : World} {b2 : Nat} {vo vl : Value} {A B : List Tk} {w w' : World} {x : Tk} {g cap : Nat} (h : Two W b2 vo vl A B w)
    (ho : w'.ownsRow W.heap.size 43 3 (.slice (some ⟨g, 0, none⟩) (A.length + 1) cap) (A.length + 1) (toksC A ++ [.int .u8 x.1, .string x.2.1, .int .i64 x.2.2])) (hg : w.grownBy w' vo.ownBlock) (hl : vo.ownBlock = some g ∨ g = w.heap.size) :
    Two W b2 (.slice (some ⟨g, 0, none⟩) (A.length + 1) cap) vl (A ++ [x]) B w' := by
  refine ⟨by unfold ToksIn; rw [toksC_append]; simpa [toksC, tokC] using ho, World.ownsRow.kept h.lst hg ?_, ?_, h.b, h.low.grown hg h.low.size (fun k hk => (World.ownsRow.lt h.out k hk).1)⟩
  · rcases h.ne with e | e | e
    · rw [e]
      cases hv : vl.ownBlock with
      | none => exact .inl rfl
      | some k => exact .inr (by simp)
    · exact .inl e
    · exact .inr (Ne.symm e)
  · cases hv : vl.ownBlock with
    | none => exact .inr (.inl rfl)
    | some k =>
      refine .inr (.inr ?_)
      have hk := (World.ownsRow.lt h.lst k hv).2
      rcases hl with e | e
      · rcases h.ne with e2 | e2 | e2
        · rw [e2] at e; cases e
        · rw [e2] at hv; cases hv
        · rw [e, hv] at e2
          simpa [Value.ownBlock] using e2
      · simp only [Value.ownBlock]
        intro e3
        injection e3 with e3
        omega
-- tokens
set_option maxRecDepth 100000 in
theorem Two.reads {W : World} {b2 n cap : Nat} {vo : Value} {ol : Option Addr} {A B : List Tk} {w : World} (h : Two W b2 vo (.slice ol n cap) A B w) : ReadT w ol B := by
  obtain ⟨oa, c, he, _, _, hr⟩ := toks_reads h.lst
  injection he with h1 _ _
  rw [h1]
  exact hr
set_option maxRecDepth 100000 in
theorem Two.at_some {W : World} {b2 n cap : Nat} {vo : Value} {ol : Option Addr} {A B : List Tk} {w : World} (h : Two W b2 vo (.slice ol n cap) A B w) {k : Nat} {x : Tk} (hk : B[k]? = some x) : ∃ g off, ol = some ⟨g, off, none⟩ := by
  obtain ⟨g, off, h1, _⟩ := h.reads k x hk
  exact ⟨g, off, h1⟩
set_option maxRecDepth 100000 in
theorem Two.read {W : World} {b2 n cap : Nat} {vo : Value} {g off : Nat} {A B : List Tk} {w : World} (h : Two W b2 vo (.slice (some ⟨g, off, none⟩) n cap) A B w) {k : Nat} {x : Tk} (hk : B[k]? = some x) :
    w.cell? ⟨g, off + k * 3 + 1, none⟩ = some (.string x.2.1) ∧ w.cell? ⟨g, off + k * 3 + 2, none⟩ = some (.int .i64 x.2.2) := by
  obtain ⟨g', off', h1, _, h2, h3⟩ := h.reads k x hk
  injection h1 with h1
  injection h1 with a b
  subst a b
  exact ⟨h2, h3⟩
set_option maxRecDepth 100000 in
theorem news_of {w : World} {q : Nat} {x y z : Value} {t : TypeId} {fr : Nat × Nat} (h : w.heap[q]? = some (.cells #[x, y, z] t fr)) : ∀ (j : Nat) (u : Value), [x, y, z][j]? = some u → w.cell? ((⟨q, 0, none⟩ : Addr).add j) = some u := by
  intro j u hj
  rw [Addr.add_lit, Lib.cell_of_heap h]
  simpa using hj

end Go.Proofs.YthkpaelpnofbgaaGreatDoor
/-
  What the program's three functions of layer 6 keep, as the laws' walks take it; the laws' own example, given that. Over the program's own text.
-/
namespace Go.Proofs.YthkpaelpnofbgaaGreatDoor
open Go.RowKit

set_option maxRecDepth 100000 in
/-- One call more. -/
theorem low_more {a b c : World} (h : Below a.heap.size a b) (k : Below b.heap.size b c) : Below a.heap.size a c := h.trans (k.mono h.size)
set_option maxRecDepth 100000 in
theorem toks_slice {w : World} {base : Nat} {v : Value} {l : List Tk} (h : ToksIn w base v l) : ∃ oa cap, v = .slice oa l.length cap ∧ l.length ≤ cap ∧ cap ≤ maxLen ∧ (oa = none → cap = 0) ∧ ReadT w oa l := by
  obtain ⟨oa, cap, rfl, h1, h2, h3⟩ := toks_reads h
  refine ⟨oa, cap, rfl, h1, h2, fun e => ?_, h3⟩
  subst e
  rcases h.2 with ⟨e, _⟩ | ⟨g, cap', cur, e, _⟩
  · injection e
  · cases e
set_option maxRecDepth 100000 in
/-- A row just made, read. -/
theorem readT_new (w : World) (l : List Tk) (t : TypeId) : ReadT (w.alloc (.cells (toksC l).toArray t)) (some ⟨w.heap.size, 0, none⟩) l := by
  intro j x hj
  obtain ⟨h1, h2, h3⟩ := toksC_get l j x hj
  refine ⟨_, _, rfl, ?_, ?_, ?_⟩
  all_goals (rw [Lib.cell_of_heap (heap_alloc_new w _)]; simpa [Nat.zero_add])
set_option maxRecDepth 100000 in
theorem readS_new (w : World) (F : List ByteArray) (t : TypeId) : ReadS (w.alloc (.cells (F.map Value.string).toArray t)) (some ⟨w.heap.size, 0, none⟩) F := by
  intro j x hj
  refine ⟨_, _, rfl, ?_⟩
  rw [Lib.cell_of_heap (heap_alloc_new w _)]
  simp [hj]
set_option maxRecDepth 100000 in
theorem low_new {a b : World} {o : Obj} (h : Below a.heap.size a b) : Below a.heap.size a (b.alloc o) := h.alloc h.size o

end Go.Proofs.YthkpaelpnofbgaaGreatDoor
