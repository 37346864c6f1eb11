/-
  Layer 17 as it landed: a tree's text. Over the program's own text.
-/
import Derived.Test.YthkpaelpnofbgaaGreatDoorQsC12
import Derived.Test.YthkpaelpnofbgaaGreatDoorQsC17

namespace Go.Proofs.YthkpaelpnofbgaaGreatDoor
open Go.RowKit

/-! ### A kid in brackets: the region draws its order -/
structure SQ where
  g1 : Nat
  g2 : Nat
  a : Value
  b : Value
  c : Value
  d : Value
def litB (c : Nat) : Obj := .cells #[.int .u8 (c : Int)] 5
/-- What each operation yields. -/
def VQ (v4 kid : Value) (p : SQ) (jz : Nat) : Value := [v4, (.slice (some ⟨p.g1, 0, none⟩) 1 1), p.a, kid, p.b, (.slice (some ⟨p.g2, 0, none⟩) 1 1), p.c, p.d].getD jz undef
section
variable {v4 kid : Value} {p : SQ}
set_option maxRecDepth 100000 in
theorem vq1 {x : Nat} (l : Nat → Bool) (hl : l 1 = false) : ∀ j, l j = true → VQ v4 kid { p with g1 := x } j = VQ v4 kid p j := by
  intro j hj
  rcases j with _ | _ | _ | _ | _ | _ | _ | _ | j
  all_goals first | rfl | (rw [hl] at hj; cases hj)
set_option maxRecDepth 100000 in
theorem vq2 {x : Value} (l : Nat → Bool) (hl : l 2 = false) : ∀ j, l j = true → VQ v4 kid { p with a := x } j = VQ v4 kid p j := by
  intro j hj
  rcases j with _ | _ | _ | _ | _ | _ | _ | _ | j
  all_goals first | rfl | (rw [hl] at hj; cases hj)
set_option maxRecDepth 100000 in
theorem vq4 {x : Value} (l : Nat → Bool) (hl : l 4 = false) : ∀ j, l j = true → VQ v4 kid { p with b := x } j = VQ v4 kid p j := by
  intro j hj
  rcases j with _ | _ | _ | _ | _ | _ | _ | _ | j
  all_goals first | rfl | (rw [hl] at hj; cases hj)
set_option maxRecDepth 100000 in
theorem vq5 {x : Nat} (l : Nat → Bool) (hl : l 5 = false) : ∀ j, l j = true → VQ v4 kid { p with g2 := x } j = VQ v4 kid p j := by
  intro j hj
  rcases j with _ | _ | _ | _ | _ | _ | _ | _ | j
  all_goals first | rfl | (rw [hl] at hj; cases hj)
set_option maxRecDepth 100000 in
theorem vq6 {x : Value} (l : Nat → Bool) (hl : l 6 = false) : ∀ j, l j = true → VQ v4 kid { p with c := x } j = VQ v4 kid p j := by
  intro j hj
  rcases j with _ | _ | _ | _ | _ | _ | _ | _ | j
  all_goals first | rfl | (rw [hl] at hj; cases hj)
set_option maxRecDepth 100000 in
theorem vq7 {x : Value} (l : Nat → Bool) (hl : l 7 = false) : ∀ j, l j = true → VQ v4 kid { p with d := x } j = VQ v4 kid p j := by
  intro j hj
  rcases j with _ | _ | _ | _ | _ | _ | _ | _ | j
  all_goals first | rfl | (rw [hl] at hj; cases hj)
end
/-- What stands, by which operations have come up: 1, 2, 4, 5, 6, 7. -/
structure RQ (w0 : World) (vb : Value) (lb LX : List Nat) (B : Nat) (l1 l2 l4 l5 l6 l7 : Bool) (p : SQ) (w : World) : Prop where
  low : w0.grownBy w vb.ownBlock
  r0 : l2 = false → BytesIn w B vb lb
  g1 : l1 = true → l2 = false → w.heap[p.g1]? = some (litB 40)
  r1 : l2 = true → l4 = false → BytesIn w B p.a (lb ++ [40]) ∧ GB w0 vb w p.a
  r2 : l4 = true → l6 = false → BytesIn w B p.b (lb ++ [40] ++ LX) ∧ GB w0 vb w p.b
  g2 : l5 = true → l6 = false → w.heap[p.g2]? = some (litB 41) ∧ w0.heap.size ≤ p.g2
  r3 : l6 = true → BytesIn w B p.c (lb ++ [40] ++ LX ++ [41]) ∧ GB w0 vb w p.c
  d7 : l7 = false → p.d = vb
  e7 : l7 = true → p.d = p.c
  o4 : l4 = true → l2 = true
  o6 : l6 = true → l4 = true
  o7 : l7 = true → l6 = true
section
variable {w0 w w' : World} {vb : Value} {lb LX : List Nat} {B : Nat} {l1 l2 l4 l5 l6 l7 : Bool} {p : SQ}
set_option maxRecDepth 100000 in
theorem RQ.start (hv : BytesIn w0 B vb lb) (g : Nat) (x : Value) : RQ w0 vb lb LX B false false false false false false ⟨g, g, x, x, x, vb⟩ w0.drew :=
  ⟨⟨rfl, rfl, rfl, Nat.le_refl _, fun _ _ _ => rfl⟩, fun _ => hv, fun h => (by cases h), fun h => (by cases h), fun h => (by cases h), fun h => (by cases h), fun h => (by cases h), fun _ => rfl, fun h => (by cases h), fun h => (by cases h), fun h => (by cases h), fun h => (by cases h)⟩
set_option maxRecDepth 100000 in
theorem grown_low {a b c : World} {r : Option Nat} (h : a.grownBy b r) (k : Below b.heap.size b c) : a.grownBy c r :=
  ⟨k.os.trans h.os, k.tape.trans h.tape, k.output.trans h.output, Nat.le_trans h.size k.size, fun j hj hne => (k.block j (Nat.lt_of_lt_of_le hj h.size)).trans (h.block j hj hne)⟩
set_option maxRecDepth 100000 in
theorem blk_keep {a b : World} {j : Nat} {o : Obj} (h : a.heap[j]? = some o) (k : Below a.heap.size a b) : b.heap[j]? = some o := (k.block j (lt_of_heap h)).trans h
set_option maxRecDepth 100000 in
theorem RQ.one (h : RQ w0 vb lb LX B l1 l2 l4 l5 l6 l7 p w) : RQ w0 vb lb LX B true l2 l4 l5 l6 l7 { p with g1 := w.heap.size } (w.alloc (litB 40)) :=
  have k := below_one (w := w) (A := litB 40)
  ⟨grown_low h.low k, fun e => bytes_low (h.r0 e) k, fun _ _ => heap_alloc_new w (litB 40), fun e e' => ⟨bytes_low (h.r1 e e').1 k, (h.r1 e e').2.low k⟩, fun e e' => ⟨bytes_low (h.r2 e e').1 k, (h.r2 e e').2.low k⟩, fun e e' => ⟨blk_keep (h.g2 e e').1 k, (h.g2 e e').2⟩, fun e => ⟨bytes_low (h.r3 e).1 k, (h.r3 e).2.low k⟩, h.d7, h.e7, h.o4, h.o6, h.o7⟩
set_option maxRecDepth 100000 in
theorem RQ.five (h : RQ w0 vb lb LX B l1 l2 l4 l5 l6 l7 p w) : RQ w0 vb lb LX B l1 l2 l4 true l6 l7 { p with g2 := w.heap.size } (w.alloc (litB 41)) :=
  have k := below_one (w := w) (A := litB 41)
  ⟨grown_low h.low k, fun e => bytes_low (h.r0 e) k, fun e e' => blk_keep (h.g1 e e') k, fun e e' => ⟨bytes_low (h.r1 e e').1 k, (h.r1 e e').2.low k⟩, fun e e' => ⟨bytes_low (h.r2 e e').1 k, (h.r2 e e').2.low k⟩, fun _ _ => ⟨heap_alloc_new w (litB 41), h.low.size⟩, fun e => ⟨bytes_low (h.r3 e).1 k, (h.r3 e).2.low k⟩, h.d7, h.e7, h.o4, h.o6, h.o7⟩
set_option maxRecDepth 100000 in
theorem RQ.two (h : RQ w0 vb lb LX B l1 l2 l4 l5 l6 l7 p w) (hv : BytesIn w0 B vb lb) (h2 : l2 = false) {v' : Value} (hb : BytesIn w' B v' (lb ++ [40])) (hg : GB w vb w' v') : RQ w0 vb lb LX B l1 true l4 l5 l6 l7 { p with a := v' } w' := by
  have h4 : l4 = false := by cases e : l4 with | false => rfl | true => exact absurd (h.o4 e) (by rw [h2]; decide)
  have h6 : l6 = false := by cases e : l6 with | false => rfl | true => exact absurd (h.o6 e) (by rw [h4]; decide)
  have hg0 : GB w0 vb w' v' := (GB.mk h.low (fun _ e => .inl e)).trans hg
  refine ⟨hg0.g, fun e => (by cases e), fun _ e => (by cases e), fun _ _ => ⟨hb, hg0⟩, fun e => absurd e (by rw [h4]; decide), fun e e' => ?_, fun e => absurd e (by rw [h6]; decide), h.d7, fun e => (h.e7 e).trans rfl, fun e => absurd e (by rw [h4]; decide), h.o6, h.o7⟩
  obtain ⟨q1, q2⟩ := h.g2 e e'
  exact ⟨gb_blk hg q1 (own_lt hv q2), q2⟩
set_option maxRecDepth 100000 in
theorem lit_ne {u : Value} {l : List Nat} {g : Nat} (h : BytesIn w B u l) (hg : w.heap[g]? = some (litB 41)) (hm : 40 ∈ l) : u.ownBlock ≠ some g := by
  intro e
  rcases h.2 with ⟨rfl, _⟩ | ⟨g', cap, cur, rfl, _, hg', _, _, _, ht⟩
  · cases e
  · injection e with e
    subst e
    rw [hg] at hg'
    injection hg' with hg'
    injection hg' with hg' _
    have : Value.int .u8 ((40 : Nat) : Int) ∈ cur.toList.take (l.length * 1) := by
      rw [ht]
      exact List.mem_map.2 ⟨40, hm, rfl⟩
    have := List.mem_of_mem_take this
    rw [← hg'] at this
    simp at this
set_option maxRecDepth 100000 in
theorem RQ.four (h : RQ w0 vb lb LX B l1 l2 l4 l5 l6 l7 p w) (h2 : l2 = true) (h4 : l4 = false) {v' : Value} (hb : BytesIn w' B v' (lb ++ [40] ++ LX)) (hg : GB w p.a w' v') : RQ w0 vb lb LX B l1 l2 true l5 l6 l7 { p with b := v' } w' := by
  have h6 : l6 = false := by cases e : l6 with | false => rfl | true => exact absurd (h.o6 e) (by rw [h4]; decide)
  obtain ⟨q1, q2⟩ := h.r1 h2 h4
  have hg0 : GB w0 vb w' v' := q2.trans hg
  refine ⟨hg0.g, fun e => absurd h2 (by rw [e]; decide), fun _ e => absurd h2 (by rw [e]; decide), fun _ e => (by cases e), fun _ _ => ⟨hb, hg0⟩, fun e e' => ?_, fun e => absurd e (by rw [h6]; decide), h.d7, fun e => (h.e7 e).trans rfl, fun _ => h2, fun _ => rfl, h.o7⟩
  obtain ⟨q3, q4⟩ := h.g2 e e'
  exact ⟨gb_blk hg q3 (lit_ne q1 q3 (by simp)), q4⟩
set_option maxRecDepth 100000 in
theorem RQ.six (h : RQ w0 vb lb LX B l1 l2 l4 l5 l6 l7 p w) (h4 : l4 = true) (h6 : l6 = false) {v' : Value} (hb : BytesIn w' B v' (lb ++ [40] ++ LX ++ [41])) (hg : GB w p.b w' v') : RQ w0 vb lb LX B l1 l2 l4 l5 true l7 { p with c := v' } w' := by
  obtain ⟨q1, q2⟩ := h.r2 h4 h6
  have hg0 : GB w0 vb w' v' := q2.trans hg
  have h2 := h.o4 h4
  have h7 : l7 = false := by cases e : l7 with | false => rfl | true => exact absurd (h.o7 e) (by rw [h6]; decide)
  exact ⟨hg0.g, fun e => absurd h2 (by rw [e]; decide), fun _ e => absurd h2 (by rw [e]; decide), fun _ e => absurd h4 (by rw [e]; decide), fun _ e => (by cases e), fun _ e => (by cases e), fun _ => ⟨hb, hg0⟩, h.d7, fun e => absurd e (by rw [h7]; decide), h.o4, fun _ => h4, fun _ => rfl⟩
set_option maxRecDepth 100000 in
theorem RQ.seven (h : RQ w0 vb lb LX B l1 l2 l4 l5 l6 l7 p w) (h6 : l6 = true) : RQ w0 vb lb LX B l1 l2 l4 l5 l6 true { p with d := p.c } w :=
  ⟨h.low, h.r0, h.g1, h.r1, h.r2, h.g2, h.r3, fun e => (by cases e), fun _ => rfl, h.o4, h.o6, fun _ => h6⟩
end

set_option maxRecDepth 100000 in
theorem own_ty {w : World} {B : Nat} {v : Value} {l : List Nat} {k : Nat} {cs : Array Value} {ty : TypeId} (h : BytesIn w B v l) (hk : w.heap[k]? = some (.cells cs ty (0, 0))) (hne : ty ≠ 5) : v.ownBlock ≠ some k := by
  intro e
  rcases h.2 with ⟨rfl, _⟩ | ⟨g5, cap, cur, rfl, _, hg5, _⟩
  · cases e
  · injection e with e
    subst e
    rw [hg5] at hk
    injection hk with hk
    injection hk with _ hk
    exact hne hk.symm
set_option maxRecDepth 100000 in
theorem wtK_take_le : ∀ (ks : List Nd) (i : Nat), wtK (ks.take i) ≤ wtK ks
  | [], i => by simp
  | x :: l, 0 => by simp [wtK]
  | x :: l, i + 1 => by
    have := wtK_take_le l i
    rw [List.take_succ_cons, wtK, wtK]
    omega
set_option maxRecDepth 100000 in
set_option maxHeartbeats 8000000 in
theorem show_any : ∀ (x : Nd), wtN x ≤ 3000 → ∀ (u : Nat), mayT u x = true → ∀ (w : World) (B : Nat), B ≤ w.heap.size → ∀ (r : Rn), RdN w (fun b => b < B) x r → ∀ (l : List Nat) (v : Value), BytesIn w B v l → l.length + 600 * wtN x ≤ 1900000 →
    Calls Tryz.prog 15 #[v, rnV r] w fun e w' => ∃ v', e = .returned v' ∧ BytesIn w' B v' (l ++ showB x) ∧ GB w v w' v' := by
  refine Nd.ind2 fun k f ts ks ih hwt u hmay w B hB r h l v hv hl => ?_
  obtain ⟨hw1, hw2, hw3, hw4⟩ := wt_parts hwt
  have hread := h
  have hsum : sumT ts ≤ 3000 := by rw [wtN] at hwt; omega
  cases h with
  | @mk _ _ _ _ ta ka tc kc rs hf0 hf1 ht htl htm htb hk hkl hkm hkb hln hr =>
  have HLf := Lib.hid (fun (hk1 : k = 1) wx (hbx : Below w.heap.size w wx) => (show Calls Tryz.prog 25 #[v, rnV (k, f, .slice ta ts.length tc, .slice ka ks.length kc)] wx fun e w' => ∃ v', e = .returned v' ∧ BytesIn w' B v' (l ++ showB (.mk k f ts ks)) ∧ GB wx v w' v' by
    subst hk1
    obtain ⟨_, _, h4, hok⟩ := may_leaf hmay
    rw [showB_leaf]
    exact showLeaf_any wx B (Nat.le_trans hB hbx.size) 1 f ts ks _ (hread.after hbx) hok h4 (by omega) hsum l v (bytes_low hv hbx) (by omega)))
  have hkind := mayT_kind hmay
  obtain ⟨m, hm⟩ : ∃ m, m = ks.length := ⟨_, rfl⟩
  obtain ⟨q, hq⟩ : ∃ q, q = ts.length := ⟨_, rfl⟩
  have HN := Lib.hid hm
  have hkids : ¬ k = 1 → ∀ x ∈ ks, ∃ v', mayT v' x = true := fun h1 x hx => by
    rw [mayT, if_neg h1, Bool.and_eq_true, mayK_iff] at hmay
    exact ⟨_, (hmay.2 x hx).2⟩
  have HIh := Lib.hid (fun (h1 : ¬ k = 1) (i : Nat) x r (hx : ks[i]? = some x) (h2 : rs[i]? = some r) (wx : World) (hb : Below B w wx) (lx : List Nat) (vx : Value) (hvx : BytesIn wx B vx lx) (hlx : lx.length + 600 * wtN x ≤ 1900000) => (show Calls Tryz.prog 15 #[vx, rnV r] wx fun e w' => ∃ v', e = .returned v' ∧ BytesIn w' B v' (lx ++ showB x) ∧ GB wx vx w' v' from by
    obtain ⟨u', hu'⟩ := hkids h1 x (List.mem_of_getElem? hx)
    exact ih x (List.mem_of_getElem? hx) (hw4 x (List.mem_of_getElem? hx)) u' hu' wx B (Nat.le_trans hB hb.size) r ((hr i x r hx h2).keep (fun b hb2 _ => hb.block b hb2)) lx vx hvx hlx))
  have HLn := Lib.hid (fun (h1 : ¬ k = 1) x (hx : x ∈ ks) => (show (showB x).length + 10 ≤ 600 * wtN x from by
    obtain ⟨u', hu'⟩ := hkids h1 x hx
    exact show_len x u' hu'))
  have HK := Lib.hid (fun wx (hb : Below B w wx) => (show ReadR wx ka rs from fun j r hj => by
    obtain ⟨g, o, h1, h2⟩ := hk j r hj
    exact ⟨g, o, h1, fun i v hv => cell_keep (S := fun b => b < B) (fun b hb2 _ => hb.block b hb2) (hkb _ h1 (len_ne hln (some_ne hj))) (h2 i v hv)⟩))
  have HK2 := Lib.hid (And.intro hln hr)
  have HW := Lib.hid (show 1 + wtK ks ≤ wtN (.mk k f ts ks) from by rw [wtN]; omega)
  have HMay := Lib.hid hmay
  obtain ⟨W0, hW0⟩ : ∃ W0, W0 = wtN (.mk k f ts ks) := ⟨_, rfl⟩
  rw [← hW0] at HW hl
  obtain ⟨L0, hL0⟩ : ∃ L0, L0 = showB (.mk k f ts ks) := ⟨_, rfl⟩
  have HL0 := Lib.hid hL0
  rw [← hL0] at HLf ⊢
  have HV := Lib.hid hv
  rw [← hm] at hw3
  rw [← hq] at hw1
  rw [← hm, ← hq, show rnV (k, f, .slice ta q tc, .slice ka m kc) = .agg #[.int .i64 k, .int .u8 f, .slice ta q tc, .slice ka m kc] from rfl] at HLf
  rw [← hm, ← hq, show rnV (k, f, .slice ta q tc, .slice ka m kc) = .agg #[.int .i64 k, .int .u8 f, .slice ta q tc, .slice ka m kc] from rfl]
  obtain ⟨X, hX⟩ : ∃ X : Obj, X = .cells #[.int .i64 k, .int .u8 f, .slice ta q tc, .slice ka m kc] 25 := ⟨_, rfl⟩
  have hx1 : (w.alloc X).heap[w.heap.size]? = some (.cells #[.int .i64 k, .int .u8 f, .slice ta q tc, .slice ka m kc] 25 (0, 0)) := by rw [heap_alloc_new w X, hX]
  have HB1 := Lib.hid (And.intro (below_one (w := w) (A := X)) hx1)
  have c0 := cell_at hx1 0
  have c1 := cell_at hx1 1
  have c2 := cell_at hx1 2
  have c3 := cell_at hx1 3
  simp only [List.getElem?_toArray, List.getElem?_cons_zero, List.getElem?_cons_succ] at c0 c1 c2 c3
  clear hm hq ih hread hf0 hf1 ht htl htm htb hk hkl hkm hkb hln hr hx1 hw2 hw4 hkids hmay hW0 hL0 hv hsum hwt
  go_enter Tryz.func15, Tryz.ntmps15
  go_upto_region 1 with fail
  rw [← hX]
  clear hX
  generalize w.alloc X = w2 at HB1 c0 c1 c2 c3 ⊢
  rcases hkind with rfl | rfl | rfl | rfl
  · have HLg := Lib.hid (HLf.out rfl w2 HB1.out.1)
    clear HLf
    go_wp2_with fail
    refine HLg.out.mono ?_
    rintro e w3 ⟨v3, rfl, hv3, hg3⟩
    have HZ := Lib.hid (And.intro hv3 (GB.first HB1.out.1 hg3))
    clear hv3 hg3
    go_wp2_with fail
    go_ret
    exact ⟨v3, rfl, HZ.out.1, HZ.out.2⟩
  · clear HLf
    clear c1 c2
    have HLs := Lib.hid (show l ++ L0 = l ++ showK bytesL 2 true ks from by rw [HL0.out, showB_more (by decide) (by decide)])
    have HX3 := Lib.hid HB1.out.2
    have HV3 := Lib.hid (bytes_low HV.out HB1.out.1)
    have HG3 := Lib.hid (show GB w v w2 v from GB.first HB1.out.1 (GB.refl w2 v))
    clear HMay HL0
    go_wp2_with fail
    clear c0 c3
    go_loopg [0, 27] m (fun g s0 s27 wr => ∃ (i : Nat) (lc : List Nat) (vc : Value), i + g = m ∧ s27 = .int .i64 (i : Int) ∧ s0 = vc ∧ Hid (BytesIn wr B vc lc) ∧ Hid (GB w v wr vc) ∧ Hid (wr.heap[w.heap.size]? = some (.cells #[.int .i64 2, .int .u8 f, .slice ta q tc, .slice ka m kc] 25 (0, 0))) ∧ Hid (lc ++ showK bytesL 2 (decide (i = 0)) (ks.drop i) = l ++ L0) ∧ Hid (lc.length ≤ l.length + 1 + 600 * wtK (ks.take i)))
    case atStart => exact ⟨0, l, _, by omega, rfl, rfl, HV3, HG3, HX3, Lib.hid HLs.out.symm, Lib.hid (by simp [wtK])⟩
    case round =>
      obtain ⟨i, lc, vc, hig, rfl, hs0, HVr, HGr, HXr, HLc, HLe⟩ := hrel
      have hs0' := hs0.symm
      subst hs0'
      cases gk with
      | zero =>
        have hi : m = i := by omega
        have hdr : ks.drop i = [] := List.drop_eq_nil_of_le (by have := HN.out; omega)
        have HFin := Lib.hid (show lc = l ++ L0 from by
          rw [← HLc.out, hdr, showK, List.append_nil])
        clear hdr
        subst hi
        go_wp2_with fail
        go_ret
        refine ⟨_, rfl, ?_, HGr.out⟩
        rw [← HFin.out]
        exact HVr.out
      | succ g =>
        have hlt : i < m := by omega
        have hbB : Below B w wr := HGr.out.below hB HV.out
        obtain ⟨x, hx⟩ : ∃ x, ks[i]? = some x := ⟨_, List.getElem?_eq_getElem (by rw [← HN.out]; exact hlt)⟩
        obtain ⟨rj, hrj⟩ : ∃ rj, rs[i]? = some rj := ⟨_, List.getElem?_eq_getElem (by rw [HK2.out.1, ← HN.out]; exact hlt)⟩
        obtain ⟨gj, oj, rfl, hcj⟩ := HK.out wr hbB i rj hrj
        have hrd := HK2.out.2 i x rj hx hrj
        have hkd := hrd.parts.1
        have hcons : ks.drop i = x :: ks.drop (i + 1) := by
          obtain ⟨_, he⟩ := List.getElem?_eq_some_iff.1 hx
          rw [← he]
          exact List.drop_eq_getElem_cons (by rw [← HN.out]; exact hlt)
        have htk := wtK_take ks i x hx
        have htot : wtK (ks.take (i + 1)) ≤ wtK ks := wtK_take_le _ _
        have hw := HW.out
        have hle := HLe.out
        obtain ⟨NX, hNX⟩ : ∃ NX, NX = 600 * wtN x := ⟨_, rfl⟩
        have hroom : lc.length + 10 + NX ≤ 1900000 := by omega
        have hroom0 := hroom
        have hnext : lc.length + NX ≤ l.length + 1 + 600 * wtK (ks.take (i + 1)) := by omega
        have HI2 := Lib.hid (fun wx (hbx : Below B w wx) (lx : List Nat) (vx : Value) (hvx : BytesIn wx B vx lx) (hlx : lx.length + NX ≤ 1900000) => HIh.out (by decide) i x rj hx hrj wx hbx lx vx hvx (by omega))
        have hlnx := HLn.out (by decide) x (List.mem_of_getElem? hx)
        obtain ⟨LX, hLX⟩ : ∃ LX, LX = showB x := ⟨_, rfl⟩
        obtain ⟨k5, f5, tv5, kv5⟩ := rj
        obtain ⟨ta5, tn5, tc5, ka5, kn5, kc5, rfl, rfl⟩ := hrd.slices
        rw [show rnV (k5, f5, .slice ta5 tn5 tc5, .slice ka5 kn5 kc5) = .agg #[.int .i64 k5, .int .u8 f5, .slice ta5 tn5 tc5, .slice ka5 kn5 kc5] from rfl, ← hLX] at HI2
        rw [← hLX, ← hNX] at hlnx
        simp only at hkd
        obtain ⟨bk, hbk⟩ : ∃ bk, brk 2 k5 = bk := ⟨_, rfl⟩
        have HBr := Lib.hid (fun wx : World => (show Calls Tryz.prog 24 #[.int .i64 2, .int .i64 k5] wx fun e w' => e = .returned (.bool bk) ∧ w' = wx from hbk ▸ bracketed_any wx 2 k5))
        have HL2 := Lib.hid (show lc ++ ((if decide (i = 0) = true then [] else [32, 38, 32]) ++ ((if bk = true then 40 :: (LX ++ [41]) else LX) ++ showK bytesL 2 false (ks.drop (i + 1)))) = l ++ L0 from by
          rw [← HLc.out, hcons, showK, ← hkd, hbk, hLX, List.append_assoc]; rfl)
        have HNx := Lib.hid hnext
        have e0 := hcj 0 _ rfl
        have e1 := hcj 1 _ rfl
        have e2 := hcj 2 _ rfl
        have e3 := hcj 3 _ rfl
        rw [Nat.add_zero] at e0
        have c0 := cell_at HXr.out 0
        have c3 := cell_at HXr.out 3
        simp only [List.getElem?_toArray, List.getElem?_cons_zero, List.getElem?_cons_succ] at c0 c3
        have hsw : w.heap.size < wr.heap.size := lt_of_heap HXr.out
        have hltj : (i : Int) < (m : Int) := by omega
        have hi1 : IntKind.i64.wrap ((i : Int) + 1) = (i : Int) + 1 := IntWalk.i64_in _ (by omega)
        have HCx := Lib.hid (heap_alloc_new wr (.cells #[.int .i64 k5, .int .u8 f5, .slice ta5 tn5 tc5, .slice ka5 kn5 kc5] 25))
        have HVx := Lib.hid (bytes_alloc HVr.out (.cells #[.int .i64 k5, .int .u8 f5, .slice ta5 tn5 tc5, .slice ka5 kn5 kc5] 25))
        have HGx := Lib.hid (HGr.out.alloc (.cells #[.int .i64 k5, .int .u8 f5, .slice ta5 tn5 tc5, .slice ka5 kn5 kc5] 25))
        have HXx := Lib.hid (blk_keep HXr.out (below_one (w := wr) (A := .cells #[.int .i64 k5, .int .u8 f5, .slice ta5 tn5 tc5, .slice ka5 kn5 kc5] 25)))
        have HOt := Lib.hid (own_ty HVx.out HCx.out (by decide))
        have HOx := Lib.hid (own_ty HVx.out HXx.out (by decide))
        clear hx hrj hcj hrd hkd hcons htk htot hw hle hroom0 hbk hLX hnext HLc HLe
        by_cases hi0 : i = 0
        · subst hi0
          rw [Nat.zero_mul, Nat.add_zero] at e0 e1 e2 e3
          obtain ⟨LB, hLB⟩ : ∃ LB, LB = (if bk = true then 40 :: (LX ++ [41]) else LX) := ⟨_, rfl⟩
          obtain ⟨RK, hRK⟩ : ∃ RK, RK = showK bytesL 2 false (ks.drop 1) := ⟨_, rfl⟩
          have HLB := Lib.hid hLB
          have HRK := Lib.hid hRK
          obtain ⟨l4, hl4⟩ : ∃ l4, l4 = lc := ⟨_, rfl⟩
          have HL3 := Lib.hid (show l4 ++ (LB ++ RK) = l ++ L0 from by rw [← HL2.out, hLB, hRK, hl4]; rfl)
          have hln4 : l4.length = lc.length := by rw [hl4]
          have HL4e := Lib.hid hl4
          have HN4 := Lib.hid (show l4.length + NX ≤ l.length + 4 + 600 * wtK (ks.take 1) from by
            have h := HNx.out
            try rw [Nat.zero_add] at h
            omega)
          have hr4 : l4.length + 4 + NX ≤ 1900000 := by omega
          clear hLB hRK HL2 HNx hl4
          go_upto_region 14 with fail
          obtain ⟨tb, htb⟩ : ∃ tb, tb = wr.heap.size := ⟨_, rfl⟩
          have hszr := HGr.out.g.size
          rw [← htb] at HCx HOt ⊢
          generalize wr.alloc (.cells #[.int .i64 k5, .int .u8 f5, .slice ta5 tn5 tc5, .slice ka5 kn5 kc5] 25) = w4 at HCx HVx HGx HXx ⊢
          clear e0 e1 e2 e3 c0 c3 htb hszr HVr HGr HXr
          have hsw : w.heap.size < w4.heap.size := lt_of_heap HXx.out
          have hst : tb < w4.heap.size := lt_of_heap HCx.out
          obtain ⟨v4, hv4⟩ : ∃ v4, v4 = vc := ⟨_, rfl⟩
          rw [← hv4] at HVx HGx HOt HOx ⊢
          rw [← HL4e.out] at HVx
          have HV4 := Lib.hid HVx.out
          have HG4 := Lib.hid HGx.out
          have HX4 := Lib.hid HXx.out
          have HC4 := Lib.hid HCx.out
          have HO4 := Lib.hid HOx.out
          have HOT4 := Lib.hid HOt.out
          clear hv4 HVx HGx HXx HCx HOx HOt
          have hbB4 : Below B w w4 := HG4.out.below hB HV.out
          have HBz := Lib.hid (show B ≤ w4.heap.size from Nat.le_trans hB hbB4.size)
          have HBB := Lib.hid hbB4
          clear hbB4
          have c0 := cell_at HX4.out 0
          have u0 := cell_at HC4.out 0
          have u1 := cell_at HC4.out 1
          have u2 := cell_at HC4.out 2
          have u3 := cell_at HC4.out 3
          simp only [List.getElem?_toArray, List.getElem?_cons_zero, List.getElem?_cons_succ] at c0 u0 u1 u2 u3
          cases bk
          · have HL4 := Lib.hid (show l4 ++ LX ++ RK = l ++ L0 from by rw [← HL3.out, HLB.out, List.append_assoc]; rfl)
            have HC := Lib.hid (HI2.out w4 HBB.out l4 v4 HV4.out (by omega))
            go_wp2_with fail
            refine (HBr.out _).mono ?_
            rintro e wz ⟨rfl, hwz⟩
            have hwz' := hwz.symm
            subst hwz'
            go_wp2_with fail
            refine HC.out.mono ?_
            rintro e w5 ⟨v5, rfl, hv5, hg5⟩
            have HV5 := Lib.hid hv5
            have HG5 := Lib.hid (HG4.out.trans hg5)
            have HX5 := Lib.hid (gb_blk hg5 HX4.out HO4.out)
            clear hv5 hg5 c0 u0 u1 u2 u3
            go_wp2_with fail
            go_roundg g
            case measure => omega
            case rel => exact ⟨1, _, v5, by omega, by go_num, rfl, HV5, HG5, HX5, Lib.hid (by rw [decide_eq_false (by omega : ¬ 1 = 0), ← HRK.out]; exact HL4.out), Lib.hid (by have := HN4.out; first | (simp; omega) | (simp at this ⊢; omega))⟩
          · have HL4 := Lib.hid (show l4 ++ [40] ++ LX ++ [41] ++ RK = l ++ L0 from by rw [← HL3.out, HLB.out]; simp)
            have HI4 := Lib.hid (fun wx (hlow : w4.grownBy wx v4.ownBlock) vx (hvx : BytesIn wx B vx (l4 ++ [40])) => HI2.out wx (HBB.out.grown hlow HBz.out (fun k hk => (World.ownsRow.lt HV4.out k hk).1)) (l4 ++ [40]) vx hvx (by simp; omega))
            have HKb := Lib.hid (fun wx (hlow : w4.grownBy wx v4.ownBlock) (j : Nat) vv (hv : (#[.int .i64 k5, .int .u8 f5, .slice ta5 tn5 tc5, .slice ka5 kn5 kc5] : Array Value).toList[j]? = some vv) => (show wx.cell? ⟨tb, 0 + j, none⟩ = some vv from by
              rw [Nat.zero_add, cell_at ((hlow.block tb (lt_of_heap HC4.out) (fun e => HOT4.out e.symm)).trans HC4.out) j, ← Array.getElem?_toList]
              exact hv))
            go_upto_region 17 with (go_at_call 24; refine (HBr.out _).mono ?_; rintro e wz ⟨rfl, hwz⟩; have hwz' := hwz.symm; subst hwz')
            clear c0 u0 u1 u2 u3
            refine wp_region_late (fun (p : SQ) jz => [v4, (.slice (some ⟨p.g1, 0, none⟩) 1 1), p.a, (.agg #[.int .i64 k5, .int .u8 f5, .slice ta5 tn5 tc5, .slice ka5 kn5 kc5]), p.b, (.slice (some ⟨p.g2, 0, none⟩) 1 1), p.c, p.d].getD jz undef)
              (fun p l wx => RQ w4 v4 l4 LX B (l 1) (l 2) (l 4) (l 5) (l 6) (l 7) p wx ∧ (l 7 = true → l 0 = true))
              _ (by kernel_rfl) (fun i j => i == 0 && j == 7) (by kernel_rfl) (fun q => by simp only [putTo, dstOf, Act.put, List.size_toArray, List.length_cons, List.length_nil, List.getElem?_toArray, Nat.reduceAdd, Option.bind_some, List.getElem?_cons_zero, List.getElem?_cons_succ, List.setIfInBounds_toArray, List.set_cons_zero, List.set_cons_succ, List.getD_cons_zero, List.getD_cons_succ]; exact rfl) ⟨0, 0, v4, v4, v4, v4⟩ ?_ ?_ ?_ ?_ ?_
            · exact ⟨RQ.start HV4.out 0 v4, fun h => by cases h⟩
            · intro l hc i' j' hL hj
              obtain ⟨rfl, rfl⟩ : i' = 0 ∧ j' = 7 := by simpa using hL
              exact (hc 2 _ rfl (hc 4 _ rfl (hc 6 _ rfl (hc 7 _ rfl hj ⟨6, .data⟩ (by simp) rfl) ⟨4, .data⟩ (by simp) rfl) ⟨2, .data⟩ (by simp) rfl) ⟨0, .data⟩ (by simp) rfl)
            · intro q l wx hR i' j' d hL hd hj
              obtain ⟨rfl, rfl⟩ : i' = 0 ∧ j' = 7 := by simpa using hL
              obtain rfl : 0 = d := Option.some.inj hd
              show some v4 = some q.d
              rw [hR.1.d7 hj]
            · intro i o ho p l wx hR hl he K hK
              rcases i with _ | _ | _ | _ | _ | _ | _ | _ | i
              · obtain rfl : _ = o := Option.some.inj ho
                have h7 : l 7 = false := by cases e : l 7 with | false => rfl | true => exact absurd (hR.2 e) (by rw [hl]; decide)
                obtain ⟨qa, qb, qc, qd, qe, qf⟩ := p
                have hd := hR.1.d7 h7
                simp only at hd
                subst hd
                go_simp
                exact hK _ wx (fun _ _ => rfl) ⟨hR.1, fun _ => rfl⟩
              · obtain rfl : _ = o := Option.some.inj ho
                have HRr := Lib.hid hR
                clear hR
                go_simp
                exact hK { p with g1 := wx.heap.size } _ (vq1 l hl) ⟨HRr.out.1.one, fun h => HRr.out.2 h⟩
              · obtain rfl : _ = o := Option.some.inj ho
                exact wp_app_lit wx (.tmp 42) (.tmp 43) rfl B (Nat.le_trans HBz.out hR.1.low.size) v4 l4 [40] rfl (hR.1.r0 hl) p.g1 1 #[.int .u8 40] rfl (hR.1.g1 (he ⟨1, .data⟩ (by simp) rfl) hl) (by simp) rfl (by simp; omega) (fun v' w' h1 h2 => hK { p with a := v' } w' (vq2 l hl) ⟨hR.1.two HV4.out hl h1 h2, fun h => hR.2 h⟩)
              · obtain rfl : _ = o := Option.some.inj ho
                exact wp_load_cells 25 (.tmp 7) rfl tb 0 rfl #[.int .i64 k5, .int .u8 f5, .slice ta5 tn5 tc5, .slice ka5 kn5 kc5] _ (HKb.out wx hR.1.low) Tryz.underlying25 rfl (by kernel_rfl) (hK p wx (fun _ _ => rfl) ⟨hR.1, fun h => hR.2 h⟩)
              · obtain rfl : _ = o := Option.some.inj ho
                have h12 := hR.1.r1 (he ⟨2, .data⟩ (by simp) rfl) hl
                have HC := Lib.hid (HI4.out wx hR.1.low p.a h12.1)
                have HRr := Lib.hid hR
                have hl2 := he ⟨2, .data⟩ (by simp) rfl
                have HL2' := Lib.hid hl2
                clear hR h12 hl2
                go_simp
                refine HC.out.mono ?_
                rintro e wy ⟨v5, rfl, h1, h2⟩
                exact hK { p with b := v5 } wy (vq4 l hl) ⟨HRr.out.1.four HL2'.out hl h1 h2, fun h => HRr.out.2 h⟩
              · obtain rfl : _ = o := Option.some.inj ho
                have HRr := Lib.hid hR
                clear hR
                go_simp
                exact hK { p with g2 := wx.heap.size } _ (vq5 l hl) ⟨HRr.out.1.five, fun h => HRr.out.2 h⟩
              · obtain rfl : _ = o := Option.some.inj ho
                have h4' := he ⟨4, .data⟩ (by simp) rfl
                have h5' := he ⟨5, .data⟩ (by simp) rfl
                exact wp_app_lit wx (.tmp 46) (.tmp 47) rfl B (Nat.le_trans HBz.out hR.1.low.size) p.b (l4 ++ [40] ++ LX) [41] rfl (hR.1.r2 h4' hl).1 p.g2 1 #[.int .u8 41] rfl (hR.1.g2 h5' hl).1 (by simp) rfl (by simp; omega) (fun v' w' h1 h2 => hK { p with c := v' } w' (vq6 l hl) ⟨hR.1.six h4' hl h1 h2, fun h => hR.2 h⟩)
              · obtain rfl : _ = o := Option.some.inj ho
                have h6' := he ⟨6, .data⟩ (by simp) rfl
                have h0' := he ⟨0, .phase⟩ (by simp) rfl
                have HRr := Lib.hid (And.intro hR (And.intro h6' h0'))
                clear hR h6' h0'
                go_simp
                exact hK { p with d := p.c } wx (vq7 l hl) ⟨HRr.out.1.1.seven HRr.out.2.1, fun _ => HRr.out.2.2⟩
              · simp at ho
            · intro p l wx hl hR
              have HR := Lib.hid (hR.1.r3 (hl 6 (by decide)))
              have hd := hR.1.e7 (hl 7 (by decide))
              have HLow := Lib.hid hR.1.low
              obtain ⟨pa, pb, pc, pd, pe, pf⟩ := p
              simp only at hd HR
              subst hd
              have HX6 := Lib.hid ((HLow.out.block _ (lt_of_heap HX4.out) (fun e => HO4.out e.symm)).trans HX4.out)
              have HV6 := Lib.hid HR.out.1
              have HG6 := Lib.hid (HG4.out.trans HR.out.2)
              clear hR hl HR
              go_wp2_with fail
              go_roundg g
              case measure => omega
              case rel => exact ⟨1, _, _, by omega, by go_num, rfl, HV6, HG6, HX6, Lib.hid (by rw [decide_eq_false (by omega : ¬ 1 = 0), ← HRK.out]; exact HL4.out), Lib.hid (by have := HN4.out; first | (simp; omega) | (simp at this ⊢; omega))⟩
        · have hi2 : 0 < i := by omega
          have hi3 : (0 : Int) < (i : Int) := by omega
          obtain ⟨LB, hLB⟩ : ∃ LB, LB = (if bk = true then 40 :: (LX ++ [41]) else LX) := ⟨_, rfl⟩
          obtain ⟨RK, hRK⟩ : ∃ RK, RK = showK bytesL 2 false (ks.drop (i + 1)) := ⟨_, rfl⟩
          have HLB := Lib.hid hLB
          have HRK := Lib.hid hRK
          obtain ⟨l4, hl4⟩ : ∃ l4, l4 = lc ++ [32, 38, 32] := ⟨_, rfl⟩
          have HL3 := Lib.hid (show l4 ++ (LB ++ RK) = l ++ L0 from by rw [← HL2.out, hLB, hRK, hl4, if_neg (show ¬ decide (i = 0) = true from by simpa using hi0), List.append_assoc])
          have hln4 : l4.length = lc.length + 3 := by rw [hl4]; simp
          have HL4e := Lib.hid hl4
          have HN4 := Lib.hid (show l4.length + NX ≤ l.length + 4 + 600 * wtK (ks.take (i + 1)) from by
            have h := HNx.out
            try rw [Nat.zero_add] at h
            omega)
          have hr4 : l4.length + 4 + NX ≤ 1900000 := by omega
          clear hLB hRK HL2 HNx hl4
          go_upto_region 14 with fail
          obtain ⟨tb, htb⟩ : ∃ tb, tb = wr.heap.size := ⟨_, rfl⟩
          have hszr := HGr.out.g.size
          rw [← htb] at HCx HOt ⊢
          generalize wr.alloc (.cells #[.int .i64 k5, .int .u8 f5, .slice ta5 tn5 tc5, .slice ka5 kn5 kc5] 25) = w3 at HCx HVx HGx HXx ⊢
          clear e0 e1 e2 e3 c0 c3 htb hszr HVr HGr HXr
          have hsw : w.heap.size < w3.heap.size := lt_of_heap HXx.out
          have hst : tb < w3.heap.size := lt_of_heap HCx.out
          have hB3 : B ≤ w3.heap.size := Nat.le_trans hB (by omega)
          go_wp2_with (at_builtin; refine app_str _ rfl (.tmp 34) (.tmp 35) rfl B hB3 vc lc rfl HVx.out ⟨#[32, 38, 32]⟩ rfl ?c2 ?_)
          case c2 => first | omega | (rw [show (⟨#[32, 38, 32]⟩ : ByteArray).size = 3 from rfl]; omega)
          intro v4 w4 hv4 hg4
          have hv4' : BytesIn w4 B v4 l4 := by rw [HL4e.out]; exact hv4
          have HV4 := Lib.hid hv4'
          have HG4 := Lib.hid (HGx.out.trans hg4)
          have HX4 := Lib.hid (gb_blk hg4 HXx.out HOx.out)
          have HC4 := Lib.hid (gb_blk hg4 HCx.out HOt.out)
          have HO4 := Lib.hid (own_ty HV4.out HX4.out (by decide))
          have HOT4 := Lib.hid (own_ty HV4.out HC4.out (by decide))
          have hsw4 : w.heap.size < w4.heap.size := lt_of_heap HX4.out
          have hst4 : tb < w4.heap.size := lt_of_heap HC4.out
          clear hv4 hv4' hg4 HVx HGx HXx HCx HOx HOt hsw hst hB3
          have hbB4 : Below B w w4 := HG4.out.below hB HV.out
          have HBz := Lib.hid (show B ≤ w4.heap.size from Nat.le_trans hB hbB4.size)
          have HBB := Lib.hid hbB4
          clear hbB4
          have c0 := cell_at HX4.out 0
          have u0 := cell_at HC4.out 0
          have u1 := cell_at HC4.out 1
          have u2 := cell_at HC4.out 2
          have u3 := cell_at HC4.out 3
          simp only [List.getElem?_toArray, List.getElem?_cons_zero, List.getElem?_cons_succ] at c0 u0 u1 u2 u3
          cases bk
          · have HL4 := Lib.hid (show l4 ++ LX ++ RK = l ++ L0 from by rw [← HL3.out, HLB.out, List.append_assoc]; rfl)
            have HC := Lib.hid (HI2.out w4 HBB.out l4 v4 HV4.out (by omega))
            go_wp2_with fail
            refine (HBr.out _).mono ?_
            rintro e wz ⟨rfl, hwz⟩
            have hwz' := hwz.symm
            subst hwz'
            go_wp2_with fail
            refine HC.out.mono ?_
            rintro e w5 ⟨v5, rfl, hv5, hg5⟩
            have HV5 := Lib.hid hv5
            have HG5 := Lib.hid (HG4.out.trans hg5)
            have HX5 := Lib.hid (gb_blk hg5 HX4.out HO4.out)
            clear hv5 hg5 c0 u0 u1 u2 u3
            go_wp2_with fail
            go_roundg g
            case measure => omega
            case rel => exact ⟨(i + 1), _, v5, by omega, by go_num, rfl, HV5, HG5, HX5, Lib.hid (by rw [decide_eq_false (by omega : ¬ (i + 1) = 0), ← HRK.out]; exact HL4.out), Lib.hid (by have := HN4.out; first | (simp; omega) | (simp at this ⊢; omega))⟩
          · have HL4 := Lib.hid (show l4 ++ [40] ++ LX ++ [41] ++ RK = l ++ L0 from by rw [← HL3.out, HLB.out]; simp)
            have HI4 := Lib.hid (fun wx (hlow : w4.grownBy wx v4.ownBlock) vx (hvx : BytesIn wx B vx (l4 ++ [40])) => HI2.out wx (HBB.out.grown hlow HBz.out (fun k hk => (World.ownsRow.lt HV4.out k hk).1)) (l4 ++ [40]) vx hvx (by simp; omega))
            have HKb := Lib.hid (fun wx (hlow : w4.grownBy wx v4.ownBlock) (j : Nat) vv (hv : (#[.int .i64 k5, .int .u8 f5, .slice ta5 tn5 tc5, .slice ka5 kn5 kc5] : Array Value).toList[j]? = some vv) => (show wx.cell? ⟨tb, 0 + j, none⟩ = some vv from by
              rw [Nat.zero_add, cell_at ((hlow.block tb (lt_of_heap HC4.out) (fun e => HOT4.out e.symm)).trans HC4.out) j, ← Array.getElem?_toList]
              exact hv))
            go_upto_region 17 with (go_at_call 24; refine (HBr.out _).mono ?_; rintro e wz ⟨rfl, hwz⟩; have hwz' := hwz.symm; subst hwz')
            clear c0 u0 u1 u2 u3
            refine wp_region_late (fun (p : SQ) jz => [v4, (.slice (some ⟨p.g1, 0, none⟩) 1 1), p.a, (.agg #[.int .i64 k5, .int .u8 f5, .slice ta5 tn5 tc5, .slice ka5 kn5 kc5]), p.b, (.slice (some ⟨p.g2, 0, none⟩) 1 1), p.c, p.d].getD jz undef)
              (fun p l wx => RQ w4 v4 l4 LX B (l 1) (l 2) (l 4) (l 5) (l 6) (l 7) p wx ∧ (l 7 = true → l 0 = true))
              _ (by kernel_rfl) (fun i j => i == 0 && j == 7) (by kernel_rfl) (fun q => by simp only [putTo, dstOf, Act.put, List.size_toArray, List.length_cons, List.length_nil, List.getElem?_toArray, Nat.reduceAdd, Option.bind_some, List.getElem?_cons_zero, List.getElem?_cons_succ, List.setIfInBounds_toArray, List.set_cons_zero, List.set_cons_succ, List.getD_cons_zero, List.getD_cons_succ]; exact rfl) ⟨0, 0, v4, v4, v4, v4⟩ ?_ ?_ ?_ ?_ ?_
            · exact ⟨RQ.start HV4.out 0 v4, fun h => by cases h⟩
            · intro l hc i' j' hL hj
              obtain ⟨rfl, rfl⟩ : i' = 0 ∧ j' = 7 := by simpa using hL
              exact (hc 2 _ rfl (hc 4 _ rfl (hc 6 _ rfl (hc 7 _ rfl hj ⟨6, .data⟩ (by simp) rfl) ⟨4, .data⟩ (by simp) rfl) ⟨2, .data⟩ (by simp) rfl) ⟨0, .data⟩ (by simp) rfl)
            · intro q l wx hR i' j' d hL hd hj
              obtain ⟨rfl, rfl⟩ : i' = 0 ∧ j' = 7 := by simpa using hL
              obtain rfl : 0 = d := Option.some.inj hd
              show some v4 = some q.d
              rw [hR.1.d7 hj]
            · intro i o ho p l wx hR hl he K hK
              rcases i with _ | _ | _ | _ | _ | _ | _ | _ | i
              · obtain rfl : _ = o := Option.some.inj ho
                have h7 : l 7 = false := by cases e : l 7 with | false => rfl | true => exact absurd (hR.2 e) (by rw [hl]; decide)
                obtain ⟨qa, qb, qc, qd, qe, qf⟩ := p
                have hd := hR.1.d7 h7
                simp only at hd
                subst hd
                go_simp
                exact hK _ wx (fun _ _ => rfl) ⟨hR.1, fun _ => rfl⟩
              · obtain rfl : _ = o := Option.some.inj ho
                have HRr := Lib.hid hR
                clear hR
                go_simp
                exact hK { p with g1 := wx.heap.size } _ (vq1 l hl) ⟨HRr.out.1.one, fun h => HRr.out.2 h⟩
              · obtain rfl : _ = o := Option.some.inj ho
                exact wp_app_lit wx (.tmp 42) (.tmp 43) rfl B (Nat.le_trans HBz.out hR.1.low.size) v4 l4 [40] rfl (hR.1.r0 hl) p.g1 1 #[.int .u8 40] rfl (hR.1.g1 (he ⟨1, .data⟩ (by simp) rfl) hl) (by simp) rfl (by simp; omega) (fun v' w' h1 h2 => hK { p with a := v' } w' (vq2 l hl) ⟨hR.1.two HV4.out hl h1 h2, fun h => hR.2 h⟩)
              · obtain rfl : _ = o := Option.some.inj ho
                exact wp_load_cells 25 (.tmp 7) rfl tb 0 rfl #[.int .i64 k5, .int .u8 f5, .slice ta5 tn5 tc5, .slice ka5 kn5 kc5] _ (HKb.out wx hR.1.low) Tryz.underlying25 rfl (by kernel_rfl) (hK p wx (fun _ _ => rfl) ⟨hR.1, fun h => hR.2 h⟩)
              · obtain rfl : _ = o := Option.some.inj ho
                have h12 := hR.1.r1 (he ⟨2, .data⟩ (by simp) rfl) hl
                have HC := Lib.hid (HI4.out wx hR.1.low p.a h12.1)
                have HRr := Lib.hid hR
                have hl2 := he ⟨2, .data⟩ (by simp) rfl
                have HL2' := Lib.hid hl2
                clear hR h12 hl2
                go_simp
                refine HC.out.mono ?_
                rintro e wy ⟨v5, rfl, h1, h2⟩
                exact hK { p with b := v5 } wy (vq4 l hl) ⟨HRr.out.1.four HL2'.out hl h1 h2, fun h => HRr.out.2 h⟩
              · obtain rfl : _ = o := Option.some.inj ho
                have HRr := Lib.hid hR
                clear hR
                go_simp
                exact hK { p with g2 := wx.heap.size } _ (vq5 l hl) ⟨HRr.out.1.five, fun h => HRr.out.2 h⟩
              · obtain rfl : _ = o := Option.some.inj ho
                have h4' := he ⟨4, .data⟩ (by simp) rfl
                have h5' := he ⟨5, .data⟩ (by simp) rfl
                exact wp_app_lit wx (.tmp 46) (.tmp 47) rfl B (Nat.le_trans HBz.out hR.1.low.size) p.b (l4 ++ [40] ++ LX) [41] rfl (hR.1.r2 h4' hl).1 p.g2 1 #[.int .u8 41] rfl (hR.1.g2 h5' hl).1 (by simp) rfl (by simp; omega) (fun v' w' h1 h2 => hK { p with c := v' } w' (vq6 l hl) ⟨hR.1.six h4' hl h1 h2, fun h => hR.2 h⟩)
              · obtain rfl : _ = o := Option.some.inj ho
                have h6' := he ⟨6, .data⟩ (by simp) rfl
                have h0' := he ⟨0, .phase⟩ (by simp) rfl
                have HRr := Lib.hid (And.intro hR (And.intro h6' h0'))
                clear hR h6' h0'
                go_simp
                exact hK { p with d := p.c } wx (vq7 l hl) ⟨HRr.out.1.1.seven HRr.out.2.1, fun _ => HRr.out.2.2⟩
              · simp at ho
            · intro p l wx hl hR
              have HR := Lib.hid (hR.1.r3 (hl 6 (by decide)))
              have hd := hR.1.e7 (hl 7 (by decide))
              have HLow := Lib.hid hR.1.low
              obtain ⟨pa, pb, pc, pd, pe, pf⟩ := p
              simp only at hd HR
              subst hd
              have HX6 := Lib.hid ((HLow.out.block _ (lt_of_heap HX4.out) (fun e => HO4.out e.symm)).trans HX4.out)
              have HV6 := Lib.hid HR.out.1
              have HG6 := Lib.hid (HG4.out.trans HR.out.2)
              clear hR hl HR
              go_wp2_with fail
              go_roundg g
              case measure => omega
              case rel => exact ⟨(i + 1), _, _, by omega, by go_num, rfl, HV6, HG6, HX6, Lib.hid (by rw [decide_eq_false (by omega : ¬ (i + 1) = 0), ← HRK.out]; exact HL4.out), Lib.hid (by have := HN4.out; first | (simp; omega) | (simp at this ⊢; omega))⟩
  · clear HLf
    clear c1 c2
    have HLs := Lib.hid (show l ++ L0 = l ++ showK bytesL 3 true ks from by rw [HL0.out, showB_more (by decide) (by decide)])
    have HX3 := Lib.hid HB1.out.2
    have HV3 := Lib.hid (bytes_low HV.out HB1.out.1)
    have HG3 := Lib.hid (show GB w v w2 v from GB.first HB1.out.1 (GB.refl w2 v))
    clear HMay HL0
    go_wp2_with fail
    clear c0 c3
    go_loopg [0, 27] m (fun g s0 s27 wr => ∃ (i : Nat) (lc : List Nat) (vc : Value), i + g = m ∧ s27 = .int .i64 (i : Int) ∧ s0 = vc ∧ Hid (BytesIn wr B vc lc) ∧ Hid (GB w v wr vc) ∧ Hid (wr.heap[w.heap.size]? = some (.cells #[.int .i64 3, .int .u8 f, .slice ta q tc, .slice ka m kc] 25 (0, 0))) ∧ Hid (lc ++ showK bytesL 3 (decide (i = 0)) (ks.drop i) = l ++ L0) ∧ Hid (lc.length ≤ l.length + 1 + 600 * wtK (ks.take i)))
    case atStart => exact ⟨0, l, _, by omega, rfl, rfl, HV3, HG3, HX3, Lib.hid HLs.out.symm, Lib.hid (by simp [wtK])⟩
    case round =>
      obtain ⟨i, lc, vc, hig, rfl, hs0, HVr, HGr, HXr, HLc, HLe⟩ := hrel
      have hs0' := hs0.symm
      subst hs0'
      cases gk with
      | zero =>
        have hi : m = i := by omega
        have hdr : ks.drop i = [] := List.drop_eq_nil_of_le (by have := HN.out; omega)
        have HFin := Lib.hid (show lc = l ++ L0 from by
          rw [← HLc.out, hdr, showK, List.append_nil])
        clear hdr
        subst hi
        go_wp2_with fail
        go_ret
        refine ⟨_, rfl, ?_, HGr.out⟩
        rw [← HFin.out]
        exact HVr.out
      | succ g =>
        have hlt : i < m := by omega
        have hbB : Below B w wr := HGr.out.below hB HV.out
        obtain ⟨x, hx⟩ : ∃ x, ks[i]? = some x := ⟨_, List.getElem?_eq_getElem (by rw [← HN.out]; exact hlt)⟩
        obtain ⟨rj, hrj⟩ : ∃ rj, rs[i]? = some rj := ⟨_, List.getElem?_eq_getElem (by rw [HK2.out.1, ← HN.out]; exact hlt)⟩
        obtain ⟨gj, oj, rfl, hcj⟩ := HK.out wr hbB i rj hrj
        have hrd := HK2.out.2 i x rj hx hrj
        have hkd := hrd.parts.1
        have hcons : ks.drop i = x :: ks.drop (i + 1) := by
          obtain ⟨_, he⟩ := List.getElem?_eq_some_iff.1 hx
          rw [← he]
          exact List.drop_eq_getElem_cons (by rw [← HN.out]; exact hlt)
        have htk := wtK_take ks i x hx
        have htot : wtK (ks.take (i + 1)) ≤ wtK ks := wtK_take_le _ _
        have hw := HW.out
        have hle := HLe.out
        obtain ⟨NX, hNX⟩ : ∃ NX, NX = 600 * wtN x := ⟨_, rfl⟩
        have hroom : lc.length + 10 + NX ≤ 1900000 := by omega
        have hroom0 := hroom
        have hnext : lc.length + NX ≤ l.length + 1 + 600 * wtK (ks.take (i + 1)) := by omega
        have HI2 := Lib.hid (fun wx (hbx : Below B w wx) (lx : List Nat) (vx : Value) (hvx : BytesIn wx B vx lx) (hlx : lx.length + NX ≤ 1900000) => HIh.out (by decide) i x rj hx hrj wx hbx lx vx hvx (by omega))
        have hlnx := HLn.out (by decide) x (List.mem_of_getElem? hx)
        obtain ⟨LX, hLX⟩ : ∃ LX, LX = showB x := ⟨_, rfl⟩
        obtain ⟨k5, f5, tv5, kv5⟩ := rj
        obtain ⟨ta5, tn5, tc5, ka5, kn5, kc5, rfl, rfl⟩ := hrd.slices
        rw [show rnV (k5, f5, .slice ta5 tn5 tc5, .slice ka5 kn5 kc5) = .agg #[.int .i64 k5, .int .u8 f5, .slice ta5 tn5 tc5, .slice ka5 kn5 kc5] from rfl, ← hLX] at HI2
        rw [← hLX, ← hNX] at hlnx
        simp only at hkd
        obtain ⟨bk, hbk⟩ : ∃ bk, brk 3 k5 = bk := ⟨_, rfl⟩
        have HBr := Lib.hid (fun wx : World => (show Calls Tryz.prog 24 #[.int .i64 3, .int .i64 k5] wx fun e w' => e = .returned (.bool bk) ∧ w' = wx from hbk ▸ bracketed_any wx 3 k5))
        have HL2 := Lib.hid (show lc ++ ((if decide (i = 0) = true then [] else [32, 124, 32]) ++ ((if bk = true then 40 :: (LX ++ [41]) else LX) ++ showK bytesL 3 false (ks.drop (i + 1)))) = l ++ L0 from by
          rw [← HLc.out, hcons, showK, ← hkd, hbk, hLX, List.append_assoc]; rfl)
        have HNx := Lib.hid hnext
        have e0 := hcj 0 _ rfl
        have e1 := hcj 1 _ rfl
        have e2 := hcj 2 _ rfl
        have e3 := hcj 3 _ rfl
        rw [Nat.add_zero] at e0
        have c0 := cell_at HXr.out 0
        have c3 := cell_at HXr.out 3
        simp only [List.getElem?_toArray, List.getElem?_cons_zero, List.getElem?_cons_succ] at c0 c3
        have hsw : w.heap.size < wr.heap.size := lt_of_heap HXr.out
        have hltj : (i : Int) < (m : Int) := by omega
        have hi1 : IntKind.i64.wrap ((i : Int) + 1) = (i : Int) + 1 := IntWalk.i64_in _ (by omega)
        have HCx := Lib.hid (heap_alloc_new wr (.cells #[.int .i64 k5, .int .u8 f5, .slice ta5 tn5 tc5, .slice ka5 kn5 kc5] 25))
        have HVx := Lib.hid (bytes_alloc HVr.out (.cells #[.int .i64 k5, .int .u8 f5, .slice ta5 tn5 tc5, .slice ka5 kn5 kc5] 25))
        have HGx := Lib.hid (HGr.out.alloc (.cells #[.int .i64 k5, .int .u8 f5, .slice ta5 tn5 tc5, .slice ka5 kn5 kc5] 25))
        have HXx := Lib.hid (blk_keep HXr.out (below_one (w := wr) (A := .cells #[.int .i64 k5, .int .u8 f5, .slice ta5 tn5 tc5, .slice ka5 kn5 kc5] 25)))
        have HOt := Lib.hid (own_ty HVx.out HCx.out (by decide))
        have HOx := Lib.hid (own_ty HVx.out HXx.out (by decide))
        clear hx hrj hcj hrd hkd hcons htk htot hw hle hroom0 hbk hLX hnext HLc HLe
        by_cases hi0 : i = 0
        · subst hi0
          rw [Nat.zero_mul, Nat.add_zero] at e0 e1 e2 e3
          obtain ⟨LB, hLB⟩ : ∃ LB, LB = (if bk = true then 40 :: (LX ++ [41]) else LX) := ⟨_, rfl⟩
          obtain ⟨RK, hRK⟩ : ∃ RK, RK = showK bytesL 3 false (ks.drop 1) := ⟨_, rfl⟩
          have HLB := Lib.hid hLB
          have HRK := Lib.hid hRK
          obtain ⟨l4, hl4⟩ : ∃ l4, l4 = lc := ⟨_, rfl⟩
          have HL3 := Lib.hid (show l4 ++ (LB ++ RK) = l ++ L0 from by rw [← HL2.out, hLB, hRK, hl4]; rfl)
          have hln4 : l4.length = lc.length := by rw [hl4]
          have HL4e := Lib.hid hl4
          have HN4 := Lib.hid (show l4.length + NX ≤ l.length + 4 + 600 * wtK (ks.take 1) from by
            have h := HNx.out
            try rw [Nat.zero_add] at h
            omega)
          have hr4 : l4.length + 4 + NX ≤ 1900000 := by omega
          clear hLB hRK HL2 HNx hl4
          go_upto_region 14 with fail
          obtain ⟨tb, htb⟩ : ∃ tb, tb = wr.heap.size := ⟨_, rfl⟩
          have hszr := HGr.out.g.size
          rw [← htb] at HCx HOt ⊢
          generalize wr.alloc (.cells #[.int .i64 k5, .int .u8 f5, .slice ta5 tn5 tc5, .slice ka5 kn5 kc5] 25) = w4 at HCx HVx HGx HXx ⊢
          clear e0 e1 e2 e3 c0 c3 htb hszr HVr HGr HXr
          have hsw : w.heap.size < w4.heap.size := lt_of_heap HXx.out
          have hst : tb < w4.heap.size := lt_of_heap HCx.out
          obtain ⟨v4, hv4⟩ : ∃ v4, v4 = vc := ⟨_, rfl⟩
          rw [← hv4] at HVx HGx HOt HOx ⊢
          rw [← HL4e.out] at HVx
          have HV4 := Lib.hid HVx.out
          have HG4 := Lib.hid HGx.out
          have HX4 := Lib.hid HXx.out
          have HC4 := Lib.hid HCx.out
          have HO4 := Lib.hid HOx.out
          have HOT4 := Lib.hid HOt.out
          clear hv4 HVx HGx HXx HCx HOx HOt
          have hbB4 : Below B w w4 := HG4.out.below hB HV.out
          have HBz := Lib.hid (show B ≤ w4.heap.size from Nat.le_trans hB hbB4.size)
          have HBB := Lib.hid hbB4
          clear hbB4
          have c0 := cell_at HX4.out 0
          have u0 := cell_at HC4.out 0
          have u1 := cell_at HC4.out 1
          have u2 := cell_at HC4.out 2
          have u3 := cell_at HC4.out 3
          simp only [List.getElem?_toArray, List.getElem?_cons_zero, List.getElem?_cons_succ] at c0 u0 u1 u2 u3
          cases bk
          · have HL4 := Lib.hid (show l4 ++ LX ++ RK = l ++ L0 from by rw [← HL3.out, HLB.out, List.append_assoc]; rfl)
            have HC := Lib.hid (HI2.out w4 HBB.out l4 v4 HV4.out (by omega))
            go_wp2_with fail
            refine (HBr.out _).mono ?_
            rintro e wz ⟨rfl, hwz⟩
            have hwz' := hwz.symm
            subst hwz'
            go_wp2_with fail
            refine HC.out.mono ?_
            rintro e w5 ⟨v5, rfl, hv5, hg5⟩
            have HV5 := Lib.hid hv5
            have HG5 := Lib.hid (HG4.out.trans hg5)
            have HX5 := Lib.hid (gb_blk hg5 HX4.out HO4.out)
            clear hv5 hg5 c0 u0 u1 u2 u3
            go_wp2_with fail
            go_roundg g
            case measure => omega
            case rel => exact ⟨1, _, v5, by omega, by go_num, rfl, HV5, HG5, HX5, Lib.hid (by rw [decide_eq_false (by omega : ¬ 1 = 0), ← HRK.out]; exact HL4.out), Lib.hid (by have := HN4.out; first | (simp; omega) | (simp at this ⊢; omega))⟩
          · have HL4 := Lib.hid (show l4 ++ [40] ++ LX ++ [41] ++ RK = l ++ L0 from by rw [← HL3.out, HLB.out]; simp)
            have HI4 := Lib.hid (fun wx (hlow : w4.grownBy wx v4.ownBlock) vx (hvx : BytesIn wx B vx (l4 ++ [40])) => HI2.out wx (HBB.out.grown hlow HBz.out (fun k hk => (World.ownsRow.lt HV4.out k hk).1)) (l4 ++ [40]) vx hvx (by simp; omega))
            have HKb := Lib.hid (fun wx (hlow : w4.grownBy wx v4.ownBlock) (j : Nat) vv (hv : (#[.int .i64 k5, .int .u8 f5, .slice ta5 tn5 tc5, .slice ka5 kn5 kc5] : Array Value).toList[j]? = some vv) => (show wx.cell? ⟨tb, 0 + j, none⟩ = some vv from by
              rw [Nat.zero_add, cell_at ((hlow.block tb (lt_of_heap HC4.out) (fun e => HOT4.out e.symm)).trans HC4.out) j, ← Array.getElem?_toList]
              exact hv))
            go_upto_region 17 with (go_at_call 24; refine (HBr.out _).mono ?_; rintro e wz ⟨rfl, hwz⟩; have hwz' := hwz.symm; subst hwz')
            clear c0 u0 u1 u2 u3
            refine wp_region_late (fun (p : SQ) jz => [v4, (.slice (some ⟨p.g1, 0, none⟩) 1 1), p.a, (.agg #[.int .i64 k5, .int .u8 f5, .slice ta5 tn5 tc5, .slice ka5 kn5 kc5]), p.b, (.slice (some ⟨p.g2, 0, none⟩) 1 1), p.c, p.d].getD jz undef)
              (fun p l wx => RQ w4 v4 l4 LX B (l 1) (l 2) (l 4) (l 5) (l 6) (l 7) p wx ∧ (l 7 = true → l 0 = true))
              _ (by kernel_rfl) (fun i j => i == 0 && j == 7) (by kernel_rfl) (fun q => by simp only [putTo, dstOf, Act.put, List.size_toArray, List.length_cons, List.length_nil, List.getElem?_toArray, Nat.reduceAdd, Option.bind_some, List.getElem?_cons_zero, List.getElem?_cons_succ, List.setIfInBounds_toArray, List.set_cons_zero, List.set_cons_succ, List.getD_cons_zero, List.getD_cons_succ]; exact rfl) ⟨0, 0, v4, v4, v4, v4⟩ ?_ ?_ ?_ ?_ ?_
            · exact ⟨RQ.start HV4.out 0 v4, fun h => by cases h⟩
            · intro l hc i' j' hL hj
              obtain ⟨rfl, rfl⟩ : i' = 0 ∧ j' = 7 := by simpa using hL
              exact (hc 2 _ rfl (hc 4 _ rfl (hc 6 _ rfl (hc 7 _ rfl hj ⟨6, .data⟩ (by simp) rfl) ⟨4, .data⟩ (by simp) rfl) ⟨2, .data⟩ (by simp) rfl) ⟨0, .data⟩ (by simp) rfl)
            · intro q l wx hR i' j' d hL hd hj
              obtain ⟨rfl, rfl⟩ : i' = 0 ∧ j' = 7 := by simpa using hL
              obtain rfl : 0 = d := Option.some.inj hd
              show some v4 = some q.d
              rw [hR.1.d7 hj]
            · intro i o ho p l wx hR hl he K hK
              rcases i with _ | _ | _ | _ | _ | _ | _ | _ | i
              · obtain rfl : _ = o := Option.some.inj ho
                have h7 : l 7 = false := by cases e : l 7 with | false => rfl | true => exact absurd (hR.2 e) (by rw [hl]; decide)
                obtain ⟨qa, qb, qc, qd, qe, qf⟩ := p
                have hd := hR.1.d7 h7
                simp only at hd
                subst hd
                go_simp
                exact hK _ wx (fun _ _ => rfl) ⟨hR.1, fun _ => rfl⟩
              · obtain rfl : _ = o := Option.some.inj ho
                have HRr := Lib.hid hR
                clear hR
                go_simp
                exact hK { p with g1 := wx.heap.size } _ (vq1 l hl) ⟨HRr.out.1.one, fun h => HRr.out.2 h⟩
              · obtain rfl : _ = o := Option.some.inj ho
                exact wp_app_lit wx (.tmp 42) (.tmp 43) rfl B (Nat.le_trans HBz.out hR.1.low.size) v4 l4 [40] rfl (hR.1.r0 hl) p.g1 1 #[.int .u8 40] rfl (hR.1.g1 (he ⟨1, .data⟩ (by simp) rfl) hl) (by simp) rfl (by simp; omega) (fun v' w' h1 h2 => hK { p with a := v' } w' (vq2 l hl) ⟨hR.1.two HV4.out hl h1 h2, fun h => hR.2 h⟩)
              · obtain rfl : _ = o := Option.some.inj ho
                exact wp_load_cells 25 (.tmp 7) rfl tb 0 rfl #[.int .i64 k5, .int .u8 f5, .slice ta5 tn5 tc5, .slice ka5 kn5 kc5] _ (HKb.out wx hR.1.low) Tryz.underlying25 rfl (by kernel_rfl) (hK p wx (fun _ _ => rfl) ⟨hR.1, fun h => hR.2 h⟩)
              · obtain rfl : _ = o := Option.some.inj ho
                have h12 := hR.1.r1 (he ⟨2, .data⟩ (by simp) rfl) hl
                have HC := Lib.hid (HI4.out wx hR.1.low p.a h12.1)
                have HRr := Lib.hid hR
                have hl2 := he ⟨2, .data⟩ (by simp) rfl
                have HL2' := Lib.hid hl2
                clear hR h12 hl2
                go_simp
                refine HC.out.mono ?_
                rintro e wy ⟨v5, rfl, h1, h2⟩
                exact hK { p with b := v5 } wy (vq4 l hl) ⟨HRr.out.1.four HL2'.out hl h1 h2, fun h => HRr.out.2 h⟩
              · obtain rfl : _ = o := Option.some.inj ho
                have HRr := Lib.hid hR
                clear hR
                go_simp
                exact hK { p with g2 := wx.heap.size } _ (vq5 l hl) ⟨HRr.out.1.five, fun h => HRr.out.2 h⟩
              · obtain rfl : _ = o := Option.some.inj ho
                have h4' := he ⟨4, .data⟩ (by simp) rfl
                have h5' := he ⟨5, .data⟩ (by simp) rfl
                exact wp_app_lit wx (.tmp 46) (.tmp 47) rfl B (Nat.le_trans HBz.out hR.1.low.size) p.b (l4 ++ [40] ++ LX) [41] rfl (hR.1.r2 h4' hl).1 p.g2 1 #[.int .u8 41] rfl (hR.1.g2 h5' hl).1 (by simp) rfl (by simp; omega) (fun v' w' h1 h2 => hK { p with c := v' } w' (vq6 l hl) ⟨hR.1.six h4' hl h1 h2, fun h => hR.2 h⟩)
              · obtain rfl : _ = o := Option.some.inj ho
                have h6' := he ⟨6, .data⟩ (by simp) rfl
                have h0' := he ⟨0, .phase⟩ (by simp) rfl
                have HRr := Lib.hid (And.intro hR (And.intro h6' h0'))
                clear hR h6' h0'
                go_simp
                exact hK { p with d := p.c } wx (vq7 l hl) ⟨HRr.out.1.1.seven HRr.out.2.1, fun _ => HRr.out.2.2⟩
              · simp at ho
            · intro p l wx hl hR
              have HR := Lib.hid (hR.1.r3 (hl 6 (by decide)))
              have hd := hR.1.e7 (hl 7 (by decide))
              have HLow := Lib.hid hR.1.low
              obtain ⟨pa, pb, pc, pd, pe, pf⟩ := p
              simp only at hd HR
              subst hd
              have HX6 := Lib.hid ((HLow.out.block _ (lt_of_heap HX4.out) (fun e => HO4.out e.symm)).trans HX4.out)
              have HV6 := Lib.hid HR.out.1
              have HG6 := Lib.hid (HG4.out.trans HR.out.2)
              clear hR hl HR
              go_wp2_with fail
              go_roundg g
              case measure => omega
              case rel => exact ⟨1, _, _, by omega, by go_num, rfl, HV6, HG6, HX6, Lib.hid (by rw [decide_eq_false (by omega : ¬ 1 = 0), ← HRK.out]; exact HL4.out), Lib.hid (by have := HN4.out; first | (simp; omega) | (simp at this ⊢; omega))⟩
        · have hi2 : 0 < i := by omega
          have hi3 : (0 : Int) < (i : Int) := by omega
          obtain ⟨LB, hLB⟩ : ∃ LB, LB = (if bk = true then 40 :: (LX ++ [41]) else LX) := ⟨_, rfl⟩
          obtain ⟨RK, hRK⟩ : ∃ RK, RK = showK bytesL 3 false (ks.drop (i + 1)) := ⟨_, rfl⟩
          have HLB := Lib.hid hLB
          have HRK := Lib.hid hRK
          obtain ⟨l4, hl4⟩ : ∃ l4, l4 = lc ++ [32, 124, 32] := ⟨_, rfl⟩
          have HL3 := Lib.hid (show l4 ++ (LB ++ RK) = l ++ L0 from by rw [← HL2.out, hLB, hRK, hl4, if_neg (show ¬ decide (i = 0) = true from by simpa using hi0), List.append_assoc])
          have hln4 : l4.length = lc.length + 3 := by rw [hl4]; simp
          have HL4e := Lib.hid hl4
          have HN4 := Lib.hid (show l4.length + NX ≤ l.length + 4 + 600 * wtK (ks.take (i + 1)) from by
            have h := HNx.out
            try rw [Nat.zero_add] at h
            omega)
          have hr4 : l4.length + 4 + NX ≤ 1900000 := by omega
          clear hLB hRK HL2 HNx hl4
          go_upto_region 14 with fail
          obtain ⟨tb, htb⟩ : ∃ tb, tb = wr.heap.size := ⟨_, rfl⟩
          have hszr := HGr.out.g.size
          rw [← htb] at HCx HOt ⊢
          generalize wr.alloc (.cells #[.int .i64 k5, .int .u8 f5, .slice ta5 tn5 tc5, .slice ka5 kn5 kc5] 25) = w3 at HCx HVx HGx HXx ⊢
          clear e0 e1 e2 e3 c0 c3 htb hszr HVr HGr HXr
          have hsw : w.heap.size < w3.heap.size := lt_of_heap HXx.out
          have hst : tb < w3.heap.size := lt_of_heap HCx.out
          have hB3 : B ≤ w3.heap.size := Nat.le_trans hB (by omega)
          go_wp2_with (at_builtin; refine app_str _ rfl (.tmp 34) (.tmp 35) rfl B hB3 vc lc rfl HVx.out ⟨#[32, 124, 32]⟩ rfl ?c2 ?_)
          case c2 => first | omega | (rw [show (⟨#[32, 124, 32]⟩ : ByteArray).size = 3 from rfl]; omega)
          intro v4 w4 hv4 hg4
          have hv4' : BytesIn w4 B v4 l4 := by rw [HL4e.out]; exact hv4
          have HV4 := Lib.hid hv4'
          have HG4 := Lib.hid (HGx.out.trans hg4)
          have HX4 := Lib.hid (gb_blk hg4 HXx.out HOx.out)
          have HC4 := Lib.hid (gb_blk hg4 HCx.out HOt.out)
          have HO4 := Lib.hid (own_ty HV4.out HX4.out (by decide))
          have HOT4 := Lib.hid (own_ty HV4.out HC4.out (by decide))
          have hsw4 : w.heap.size < w4.heap.size := lt_of_heap HX4.out
          have hst4 : tb < w4.heap.size := lt_of_heap HC4.out
          clear hv4 hv4' hg4 HVx HGx HXx HCx HOx HOt hsw hst hB3
          have hbB4 : Below B w w4 := HG4.out.below hB HV.out
          have HBz := Lib.hid (show B ≤ w4.heap.size from Nat.le_trans hB hbB4.size)
          have HBB := Lib.hid hbB4
          clear hbB4
          have c0 := cell_at HX4.out 0
          have u0 := cell_at HC4.out 0
          have u1 := cell_at HC4.out 1
          have u2 := cell_at HC4.out 2
          have u3 := cell_at HC4.out 3
          simp only [List.getElem?_toArray, List.getElem?_cons_zero, List.getElem?_cons_succ] at c0 u0 u1 u2 u3
          cases bk
          · have HL4 := Lib.hid (show l4 ++ LX ++ RK = l ++ L0 from by rw [← HL3.out, HLB.out, List.append_assoc]; rfl)
            have HC := Lib.hid (HI2.out w4 HBB.out l4 v4 HV4.out (by omega))
            go_wp2_with fail
            refine (HBr.out _).mono ?_
            rintro e wz ⟨rfl, hwz⟩
            have hwz' := hwz.symm
            subst hwz'
            go_wp2_with fail
            refine HC.out.mono ?_
            rintro e w5 ⟨v5, rfl, hv5, hg5⟩
            have HV5 := Lib.hid hv5
            have HG5 := Lib.hid (HG4.out.trans hg5)
            have HX5 := Lib.hid (gb_blk hg5 HX4.out HO4.out)
            clear hv5 hg5 c0 u0 u1 u2 u3
            go_wp2_with fail
            go_roundg g
            case measure => omega
            case rel => exact ⟨(i + 1), _, v5, by omega, by go_num, rfl, HV5, HG5, HX5, Lib.hid (by rw [decide_eq_false (by omega : ¬ (i + 1) = 0), ← HRK.out]; exact HL4.out), Lib.hid (by have := HN4.out; first | (simp; omega) | (simp at this ⊢; omega))⟩
          · have HL4 := Lib.hid (show l4 ++ [40] ++ LX ++ [41] ++ RK = l ++ L0 from by rw [← HL3.out, HLB.out]; simp)
            have HI4 := Lib.hid (fun wx (hlow : w4.grownBy wx v4.ownBlock) vx (hvx : BytesIn wx B vx (l4 ++ [40])) => HI2.out wx (HBB.out.grown hlow HBz.out (fun k hk => (World.ownsRow.lt HV4.out k hk).1)) (l4 ++ [40]) vx hvx (by simp; omega))
            have HKb := Lib.hid (fun wx (hlow : w4.grownBy wx v4.ownBlock) (j : Nat) vv (hv : (#[.int .i64 k5, .int .u8 f5, .slice ta5 tn5 tc5, .slice ka5 kn5 kc5] : Array Value).toList[j]? = some vv) => (show wx.cell? ⟨tb, 0 + j, none⟩ = some vv from by
              rw [Nat.zero_add, cell_at ((hlow.block tb (lt_of_heap HC4.out) (fun e => HOT4.out e.symm)).trans HC4.out) j, ← Array.getElem?_toList]
              exact hv))
            go_upto_region 17 with (go_at_call 24; refine (HBr.out _).mono ?_; rintro e wz ⟨rfl, hwz⟩; have hwz' := hwz.symm; subst hwz')
            clear c0 u0 u1 u2 u3
            refine wp_region_late (fun (p : SQ) jz => [v4, (.slice (some ⟨p.g1, 0, none⟩) 1 1), p.a, (.agg #[.int .i64 k5, .int .u8 f5, .slice ta5 tn5 tc5, .slice ka5 kn5 kc5]), p.b, (.slice (some ⟨p.g2, 0, none⟩) 1 1), p.c, p.d].getD jz undef)
              (fun p l wx => RQ w4 v4 l4 LX B (l 1) (l 2) (l 4) (l 5) (l 6) (l 7) p wx ∧ (l 7 = true → l 0 = true))
              _ (by kernel_rfl) (fun i j => i == 0 && j == 7) (by kernel_rfl) (fun q => by simp only [putTo, dstOf, Act.put, List.size_toArray, List.length_cons, List.length_nil, List.getElem?_toArray, Nat.reduceAdd, Option.bind_some, List.getElem?_cons_zero, List.getElem?_cons_succ, List.setIfInBounds_toArray, List.set_cons_zero, List.set_cons_succ, List.getD_cons_zero, List.getD_cons_succ]; exact rfl) ⟨0, 0, v4, v4, v4, v4⟩ ?_ ?_ ?_ ?_ ?_
            · exact ⟨RQ.start HV4.out 0 v4, fun h => by cases h⟩
            · intro l hc i' j' hL hj
              obtain ⟨rfl, rfl⟩ : i' = 0 ∧ j' = 7 := by simpa using hL
              exact (hc 2 _ rfl (hc 4 _ rfl (hc 6 _ rfl (hc 7 _ rfl hj ⟨6, .data⟩ (by simp) rfl) ⟨4, .data⟩ (by simp) rfl) ⟨2, .data⟩ (by simp) rfl) ⟨0, .data⟩ (by simp) rfl)
            · intro q l wx hR i' j' d hL hd hj
              obtain ⟨rfl, rfl⟩ : i' = 0 ∧ j' = 7 := by simpa using hL
              obtain rfl : 0 = d := Option.some.inj hd
              show some v4 = some q.d
              rw [hR.1.d7 hj]
            · intro i o ho p l wx hR hl he K hK
              rcases i with _ | _ | _ | _ | _ | _ | _ | _ | i
              · obtain rfl : _ = o := Option.some.inj ho
                have h7 : l 7 = false := by cases e : l 7 with | false => rfl | true => exact absurd (hR.2 e) (by rw [hl]; decide)
                obtain ⟨qa, qb, qc, qd, qe, qf⟩ := p
                have hd := hR.1.d7 h7
                simp only at hd
                subst hd
                go_simp
                exact hK _ wx (fun _ _ => rfl) ⟨hR.1, fun _ => rfl⟩
              · obtain rfl : _ = o := Option.some.inj ho
                have HRr := Lib.hid hR
                clear hR
                go_simp
                exact hK { p with g1 := wx.heap.size } _ (vq1 l hl) ⟨HRr.out.1.one, fun h => HRr.out.2 h⟩
              · obtain rfl : _ = o := Option.some.inj ho
                exact wp_app_lit wx (.tmp 42) (.tmp 43) rfl B (Nat.le_trans HBz.out hR.1.low.size) v4 l4 [40] rfl (hR.1.r0 hl) p.g1 1 #[.int .u8 40] rfl (hR.1.g1 (he ⟨1, .data⟩ (by simp) rfl) hl) (by simp) rfl (by simp; omega) (fun v' w' h1 h2 => hK { p with a := v' } w' (vq2 l hl) ⟨hR.1.two HV4.out hl h1 h2, fun h => hR.2 h⟩)
              · obtain rfl : _ = o := Option.some.inj ho
                exact wp_load_cells 25 (.tmp 7) rfl tb 0 rfl #[.int .i64 k5, .int .u8 f5, .slice ta5 tn5 tc5, .slice ka5 kn5 kc5] _ (HKb.out wx hR.1.low) Tryz.underlying25 rfl (by kernel_rfl) (hK p wx (fun _ _ => rfl) ⟨hR.1, fun h => hR.2 h⟩)
              · obtain rfl : _ = o := Option.some.inj ho
                have h12 := hR.1.r1 (he ⟨2, .data⟩ (by simp) rfl) hl
                have HC := Lib.hid (HI4.out wx hR.1.low p.a h12.1)
                have HRr := Lib.hid hR
                have hl2 := he ⟨2, .data⟩ (by simp) rfl
                have HL2' := Lib.hid hl2
                clear hR h12 hl2
                go_simp
                refine HC.out.mono ?_
                rintro e wy ⟨v5, rfl, h1, h2⟩
                exact hK { p with b := v5 } wy (vq4 l hl) ⟨HRr.out.1.four HL2'.out hl h1 h2, fun h => HRr.out.2 h⟩
              · obtain rfl : _ = o := Option.some.inj ho
                have HRr := Lib.hid hR
                clear hR
                go_simp
                exact hK { p with g2 := wx.heap.size } _ (vq5 l hl) ⟨HRr.out.1.five, fun h => HRr.out.2 h⟩
              · obtain rfl : _ = o := Option.some.inj ho
                have h4' := he ⟨4, .data⟩ (by simp) rfl
                have h5' := he ⟨5, .data⟩ (by simp) rfl
                exact wp_app_lit wx (.tmp 46) (.tmp 47) rfl B (Nat.le_trans HBz.out hR.1.low.size) p.b (l4 ++ [40] ++ LX) [41] rfl (hR.1.r2 h4' hl).1 p.g2 1 #[.int .u8 41] rfl (hR.1.g2 h5' hl).1 (by simp) rfl (by simp; omega) (fun v' w' h1 h2 => hK { p with c := v' } w' (vq6 l hl) ⟨hR.1.six h4' hl h1 h2, fun h => hR.2 h⟩)
              · obtain rfl : _ = o := Option.some.inj ho
                have h6' := he ⟨6, .data⟩ (by simp) rfl
                have h0' := he ⟨0, .phase⟩ (by simp) rfl
                have HRr := Lib.hid (And.intro hR (And.intro h6' h0'))
                clear hR h6' h0'
                go_simp
                exact hK { p with d := p.c } wx (vq7 l hl) ⟨HRr.out.1.1.seven HRr.out.2.1, fun _ => HRr.out.2.2⟩
              · simp at ho
            · intro p l wx hl hR
              have HR := Lib.hid (hR.1.r3 (hl 6 (by decide)))
              have hd := hR.1.e7 (hl 7 (by decide))
              have HLow := Lib.hid hR.1.low
              obtain ⟨pa, pb, pc, pd, pe, pf⟩ := p
              simp only at hd HR
              subst hd
              have HX6 := Lib.hid ((HLow.out.block _ (lt_of_heap HX4.out) (fun e => HO4.out e.symm)).trans HX4.out)
              have HV6 := Lib.hid HR.out.1
              have HG6 := Lib.hid (HG4.out.trans HR.out.2)
              clear hR hl HR
              go_wp2_with fail
              go_roundg g
              case measure => omega
              case rel => exact ⟨(i + 1), _, _, by omega, by go_num, rfl, HV6, HG6, HX6, Lib.hid (by rw [decide_eq_false (by omega : ¬ (i + 1) = 0), ← HRK.out]; exact HL4.out), Lib.hid (by have := HN4.out; first | (simp; omega) | (simp at this ⊢; omega))⟩
  · clear HLf
    clear c1 c2
    obtain ⟨x1, rfl⟩ : ∃ x, ks = [x] := by
      obtain ⟨x, h, _⟩ := may_not HMay.out
      exact ⟨x, h⟩
    obtain rfl : m = 1 := HN.out
    have HLs := Lib.hid (show l ++ L0 = (l ++ [33]) ++ showK bytesL 4 true [x1] from by
      rw [HL0.out]
      unfold showB
      rw [showG, if_neg (by decide), if_pos rfl, List.append_assoc])
    have HVa := Lib.hid (bytes_low HV.out HB1.out.1)
    have hsB : B ≤ w2.heap.size := Nat.le_trans hB HB1.out.1.size
    clear HMay HL0
    go_wp2_with (at_builtin; refine app_lit _ rfl (.tmp 17) (.tmp 18) rfl B ?c1 v l [33] rfl (bytes_alloc HVa.out _) w2.heap.size 1 #[.int .u8 33] rfl (heap_alloc_new w2 _) (by simp) rfl ?c3 ?_)
    case c1 => simp; omega
    case c3 => simp; omega
    intro v3 w3 hv3 hg3
    have HX3 := Lib.hid (gb_blk (((GB.refl w2 v).alloc (.cells #[.int .u8 33] 5)).trans hg3) HB1.out.2 (own_lt HV.out (Nat.le_refl _)))
    have HV3 := Lib.hid hv3
    have HG3 := Lib.hid (show GB w v w3 v3 from (GB.first HB1.out.1 ((GB.refl w2 v).alloc _)).trans hg3)
    clear hv3 hg3 c0 c3
    have c3 := cell_at HX3.out 3
    simp only [List.getElem?_toArray, List.getElem?_cons_zero, List.getElem?_cons_succ] at c3
    go_wp2_with fail
    clear c3
    go_loopg [0, 27] 1 (fun g s0 s27 wr => ∃ (i : Nat) (lc : List Nat) (vc : Value), i + g = 1 ∧ s27 = .int .i64 (i : Int) ∧ s0 = vc ∧ Hid (BytesIn wr B vc lc) ∧ Hid (GB w v wr vc) ∧ Hid (wr.heap[w.heap.size]? = some (.cells #[.int .i64 4, .int .u8 f, .slice ta q tc, .slice ka 1 kc] 25 (0, 0))) ∧ Hid (lc ++ showK bytesL 4 (decide (i = 0)) ([x1].drop i) = l ++ L0) ∧ Hid (lc.length ≤ l.length + 1 + 600 * wtK ([x1].take i)))
    case atStart => exact ⟨0, (l ++ [33]), _, by omega, rfl, rfl, HV3, HG3, HX3, Lib.hid HLs.out.symm, Lib.hid (by simp [wtK])⟩
    case round =>
      obtain ⟨i, lc, vc, hig, rfl, hs0, HVr, HGr, HXr, HLc, HLe⟩ := hrel
      have hs0' := hs0.symm
      subst hs0'
      cases gk with
      | zero =>
        have hi : 1 = i := by omega
        have hdr : [x1].drop i = [] := List.drop_eq_nil_of_le (by have := HN.out; omega)
        have HFin := Lib.hid (show lc = l ++ L0 from by
          rw [← HLc.out, hdr, showK, List.append_nil])
        clear hdr
        subst hi
        go_wp2_with fail
        go_ret
        refine ⟨_, rfl, ?_, HGr.out⟩
        rw [← HFin.out]
        exact HVr.out
      | succ g =>
        have hlt : i < 1 := by omega
        have hbB : Below B w wr := HGr.out.below hB HV.out
        obtain ⟨x, hx⟩ : ∃ x, [x1][i]? = some x := ⟨_, List.getElem?_eq_getElem (by rw [← HN.out]; exact hlt)⟩
        obtain ⟨rj, hrj⟩ : ∃ rj, rs[i]? = some rj := ⟨_, List.getElem?_eq_getElem (by rw [HK2.out.1, ← HN.out]; exact hlt)⟩
        obtain ⟨gj, oj, rfl, hcj⟩ := HK.out wr hbB i rj hrj
        have hrd := HK2.out.2 i x rj hx hrj
        have hkd := hrd.parts.1
        have hcons : [x1].drop i = x :: [x1].drop (i + 1) := by
          obtain ⟨_, he⟩ := List.getElem?_eq_some_iff.1 hx
          rw [← he]
          exact List.drop_eq_getElem_cons (by rw [← HN.out]; exact hlt)
        have htk := wtK_take [x1] i x hx
        have htot : wtK ([x1].take (i + 1)) ≤ wtK [x1] := wtK_take_le _ _
        have hw := HW.out
        have hle := HLe.out
        obtain ⟨NX, hNX⟩ : ∃ NX, NX = 600 * wtN x := ⟨_, rfl⟩
        have hroom : lc.length + 10 + NX ≤ 1900000 := by omega
        have hroom0 := hroom
        have hnext : lc.length + NX ≤ l.length + 1 + 600 * wtK ([x1].take (i + 1)) := by omega
        have HI2 := Lib.hid (fun wx (hbx : Below B w wx) (lx : List Nat) (vx : Value) (hvx : BytesIn wx B vx lx) (hlx : lx.length + NX ≤ 1900000) => HIh.out (by decide) i x rj hx hrj wx hbx lx vx hvx (by omega))
        have hlnx := HLn.out (by decide) x (List.mem_of_getElem? hx)
        obtain ⟨LX, hLX⟩ : ∃ LX, LX = showB x := ⟨_, rfl⟩
        obtain ⟨k5, f5, tv5, kv5⟩ := rj
        obtain ⟨ta5, tn5, tc5, ka5, kn5, kc5, rfl, rfl⟩ := hrd.slices
        rw [show rnV (k5, f5, .slice ta5 tn5 tc5, .slice ka5 kn5 kc5) = .agg #[.int .i64 k5, .int .u8 f5, .slice ta5 tn5 tc5, .slice ka5 kn5 kc5] from rfl, ← hLX] at HI2
        rw [← hLX, ← hNX] at hlnx
        simp only at hkd
        obtain ⟨bk, hbk⟩ : ∃ bk, brk 4 k5 = bk := ⟨_, rfl⟩
        have HBr := Lib.hid (fun wx : World => (show Calls Tryz.prog 24 #[.int .i64 4, .int .i64 k5] wx fun e w' => e = .returned (.bool bk) ∧ w' = wx from hbk ▸ bracketed_any wx 4 k5))
        have HL2 := Lib.hid (show lc ++ ((if decide (i = 0) = true then [] else []) ++ ((if bk = true then 40 :: (LX ++ [41]) else LX) ++ showK bytesL 4 false ([x1].drop (i + 1)))) = l ++ L0 from by
          rw [← HLc.out, hcons, showK, ← hkd, hbk, hLX, List.append_assoc]; rfl)
        have HNx := Lib.hid hnext
        have e0 := hcj 0 _ rfl
        have e1 := hcj 1 _ rfl
        have e2 := hcj 2 _ rfl
        have e3 := hcj 3 _ rfl
        rw [Nat.add_zero] at e0
        have c0 := cell_at HXr.out 0
        have c3 := cell_at HXr.out 3
        simp only [List.getElem?_toArray, List.getElem?_cons_zero, List.getElem?_cons_succ] at c0 c3
        have hsw : w.heap.size < wr.heap.size := lt_of_heap HXr.out
        have hltj : (i : Int) < (1 : Int) := by omega
        have hi1 : IntKind.i64.wrap ((i : Int) + 1) = (i : Int) + 1 := IntWalk.i64_in _ (by omega)
        have HCx := Lib.hid (heap_alloc_new wr (.cells #[.int .i64 k5, .int .u8 f5, .slice ta5 tn5 tc5, .slice ka5 kn5 kc5] 25))
        have HVx := Lib.hid (bytes_alloc HVr.out (.cells #[.int .i64 k5, .int .u8 f5, .slice ta5 tn5 tc5, .slice ka5 kn5 kc5] 25))
        have HGx := Lib.hid (HGr.out.alloc (.cells #[.int .i64 k5, .int .u8 f5, .slice ta5 tn5 tc5, .slice ka5 kn5 kc5] 25))
        have HXx := Lib.hid (blk_keep HXr.out (below_one (w := wr) (A := .cells #[.int .i64 k5, .int .u8 f5, .slice ta5 tn5 tc5, .slice ka5 kn5 kc5] 25)))
        have HOt := Lib.hid (own_ty HVx.out HCx.out (by decide))
        have HOx := Lib.hid (own_ty HVx.out HXx.out (by decide))
        clear hx hrj hcj hrd hkd hcons htk htot hw hle hroom0 hbk hLX hnext HLc HLe
        by_cases hi0 : i = 0
        · subst hi0
          rw [Nat.zero_mul, Nat.add_zero] at e0 e1 e2 e3
          obtain ⟨LB, hLB⟩ : ∃ LB, LB = (if bk = true then 40 :: (LX ++ [41]) else LX) := ⟨_, rfl⟩
          obtain ⟨RK, hRK⟩ : ∃ RK, RK = showK bytesL 4 false ([x1].drop 1) := ⟨_, rfl⟩
          have HLB := Lib.hid hLB
          have HRK := Lib.hid hRK
          obtain ⟨l4, hl4⟩ : ∃ l4, l4 = lc := ⟨_, rfl⟩
          have HL3 := Lib.hid (show l4 ++ (LB ++ RK) = l ++ L0 from by rw [← HL2.out, hLB, hRK, hl4]; rfl)
          have hln4 : l4.length = lc.length := by rw [hl4]
          have HL4e := Lib.hid hl4
          have HN4 := Lib.hid (show l4.length + NX ≤ l.length + 4 + 600 * wtK ([x1].take 1) from by
            have h := HNx.out
            try rw [Nat.zero_add] at h
            omega)
          have hr4 : l4.length + 4 + NX ≤ 1900000 := by omega
          clear hLB hRK HL2 HNx hl4
          go_upto_region 14 with fail
          obtain ⟨tb, htb⟩ : ∃ tb, tb = wr.heap.size := ⟨_, rfl⟩
          have hszr := HGr.out.g.size
          rw [← htb] at HCx HOt ⊢
          generalize wr.alloc (.cells #[.int .i64 k5, .int .u8 f5, .slice ta5 tn5 tc5, .slice ka5 kn5 kc5] 25) = w4 at HCx HVx HGx HXx ⊢
          clear e0 e1 e2 e3 c0 c3 htb hszr HVr HGr HXr
          have hsw : w.heap.size < w4.heap.size := lt_of_heap HXx.out
          have hst : tb < w4.heap.size := lt_of_heap HCx.out
          obtain ⟨v4, hv4⟩ : ∃ v4, v4 = vc := ⟨_, rfl⟩
          rw [← hv4] at HVx HGx HOt HOx ⊢
          rw [← HL4e.out] at HVx
          have HV4 := Lib.hid HVx.out
          have HG4 := Lib.hid HGx.out
          have HX4 := Lib.hid HXx.out
          have HC4 := Lib.hid HCx.out
          have HO4 := Lib.hid HOx.out
          have HOT4 := Lib.hid HOt.out
          clear hv4 HVx HGx HXx HCx HOx HOt
          have hbB4 : Below B w w4 := HG4.out.below hB HV.out
          have HBz := Lib.hid (show B ≤ w4.heap.size from Nat.le_trans hB hbB4.size)
          have HBB := Lib.hid hbB4
          clear hbB4
          have c0 := cell_at HX4.out 0
          have u0 := cell_at HC4.out 0
          have u1 := cell_at HC4.out 1
          have u2 := cell_at HC4.out 2
          have u3 := cell_at HC4.out 3
          simp only [List.getElem?_toArray, List.getElem?_cons_zero, List.getElem?_cons_succ] at c0 u0 u1 u2 u3
          cases bk
          · have HL4 := Lib.hid (show l4 ++ LX ++ RK = l ++ L0 from by rw [← HL3.out, HLB.out, List.append_assoc]; rfl)
            have HC := Lib.hid (HI2.out w4 HBB.out l4 v4 HV4.out (by omega))
            go_wp2_with fail
            refine (HBr.out _).mono ?_
            rintro e wz ⟨rfl, hwz⟩
            have hwz' := hwz.symm
            subst hwz'
            go_wp2_with fail
            refine HC.out.mono ?_
            rintro e w5 ⟨v5, rfl, hv5, hg5⟩
            have HV5 := Lib.hid hv5
            have HG5 := Lib.hid (HG4.out.trans hg5)
            have HX5 := Lib.hid (gb_blk hg5 HX4.out HO4.out)
            clear hv5 hg5 c0 u0 u1 u2 u3
            go_wp2_with fail
            go_roundg g
            case measure => omega
            case rel => exact ⟨1, _, v5, by omega, by go_num, rfl, HV5, HG5, HX5, Lib.hid (by rw [decide_eq_false (by omega : ¬ 1 = 0), ← HRK.out]; exact HL4.out), Lib.hid (by have := HN4.out; first | (simp; omega) | (simp at this ⊢; omega))⟩
          · have HL4 := Lib.hid (show l4 ++ [40] ++ LX ++ [41] ++ RK = l ++ L0 from by rw [← HL3.out, HLB.out]; simp)
            have HI4 := Lib.hid (fun wx (hlow : w4.grownBy wx v4.ownBlock) vx (hvx : BytesIn wx B vx (l4 ++ [40])) => HI2.out wx (HBB.out.grown hlow HBz.out (fun k hk => (World.ownsRow.lt HV4.out k hk).1)) (l4 ++ [40]) vx hvx (by simp; omega))
            have HKb := Lib.hid (fun wx (hlow : w4.grownBy wx v4.ownBlock) (j : Nat) vv (hv : (#[.int .i64 k5, .int .u8 f5, .slice ta5 tn5 tc5, .slice ka5 kn5 kc5] : Array Value).toList[j]? = some vv) => (show wx.cell? ⟨tb, 0 + j, none⟩ = some vv from by
              rw [Nat.zero_add, cell_at ((hlow.block tb (lt_of_heap HC4.out) (fun e => HOT4.out e.symm)).trans HC4.out) j, ← Array.getElem?_toList]
              exact hv))
            go_upto_region 17 with (go_at_call 24; refine (HBr.out _).mono ?_; rintro e wz ⟨rfl, hwz⟩; have hwz' := hwz.symm; subst hwz')
            clear c0 u0 u1 u2 u3
            refine wp_region_late (fun (p : SQ) jz => [v4, (.slice (some ⟨p.g1, 0, none⟩) 1 1), p.a, (.agg #[.int .i64 k5, .int .u8 f5, .slice ta5 tn5 tc5, .slice ka5 kn5 kc5]), p.b, (.slice (some ⟨p.g2, 0, none⟩) 1 1), p.c, p.d].getD jz undef)
              (fun p l wx => RQ w4 v4 l4 LX B (l 1) (l 2) (l 4) (l 5) (l 6) (l 7) p wx ∧ (l 7 = true → l 0 = true))
              _ (by kernel_rfl) (fun i j => i == 0 && j == 7) (by kernel_rfl) (fun q => by simp only [putTo, dstOf, Act.put, List.size_toArray, List.length_cons, List.length_nil, List.getElem?_toArray, Nat.reduceAdd, Option.bind_some, List.getElem?_cons_zero, List.getElem?_cons_succ, List.setIfInBounds_toArray, List.set_cons_zero, List.set_cons_succ, List.getD_cons_zero, List.getD_cons_succ]; exact rfl) ⟨0, 0, v4, v4, v4, v4⟩ ?_ ?_ ?_ ?_ ?_
            · exact ⟨RQ.start HV4.out 0 v4, fun h => by cases h⟩
            · intro l hc i' j' hL hj
              obtain ⟨rfl, rfl⟩ : i' = 0 ∧ j' = 7 := by simpa using hL
              exact (hc 2 _ rfl (hc 4 _ rfl (hc 6 _ rfl (hc 7 _ rfl hj ⟨6, .data⟩ (by simp) rfl) ⟨4, .data⟩ (by simp) rfl) ⟨2, .data⟩ (by simp) rfl) ⟨0, .data⟩ (by simp) rfl)
            · intro q l wx hR i' j' d hL hd hj
              obtain ⟨rfl, rfl⟩ : i' = 0 ∧ j' = 7 := by simpa using hL
              obtain rfl : 0 = d := Option.some.inj hd
              show some v4 = some q.d
              rw [hR.1.d7 hj]
            · intro i o ho p l wx hR hl he K hK
              rcases i with _ | _ | _ | _ | _ | _ | _ | _ | i
              · obtain rfl : _ = o := Option.some.inj ho
                have h7 : l 7 = false := by cases e : l 7 with | false => rfl | true => exact absurd (hR.2 e) (by rw [hl]; decide)
                obtain ⟨qa, qb, qc, qd, qe, qf⟩ := p
                have hd := hR.1.d7 h7
                simp only at hd
                subst hd
                go_simp
                exact hK _ wx (fun _ _ => rfl) ⟨hR.1, fun _ => rfl⟩
              · obtain rfl : _ = o := Option.some.inj ho
                have HRr := Lib.hid hR
                clear hR
                go_simp
                exact hK { p with g1 := wx.heap.size } _ (vq1 l hl) ⟨HRr.out.1.one, fun h => HRr.out.2 h⟩
              · obtain rfl : _ = o := Option.some.inj ho
                exact wp_app_lit wx (.tmp 42) (.tmp 43) rfl B (Nat.le_trans HBz.out hR.1.low.size) v4 l4 [40] rfl (hR.1.r0 hl) p.g1 1 #[.int .u8 40] rfl (hR.1.g1 (he ⟨1, .data⟩ (by simp) rfl) hl) (by simp) rfl (by simp; omega) (fun v' w' h1 h2 => hK { p with a := v' } w' (vq2 l hl) ⟨hR.1.two HV4.out hl h1 h2, fun h => hR.2 h⟩)
              · obtain rfl : _ = o := Option.some.inj ho
                exact wp_load_cells 25 (.tmp 7) rfl tb 0 rfl #[.int .i64 k5, .int .u8 f5, .slice ta5 tn5 tc5, .slice ka5 kn5 kc5] _ (HKb.out wx hR.1.low) Tryz.underlying25 rfl (by kernel_rfl) (hK p wx (fun _ _ => rfl) ⟨hR.1, fun h => hR.2 h⟩)
              · obtain rfl : _ = o := Option.some.inj ho
                have h12 := hR.1.r1 (he ⟨2, .data⟩ (by simp) rfl) hl
                have HC := Lib.hid (HI4.out wx hR.1.low p.a h12.1)
                have HRr := Lib.hid hR
                have hl2 := he ⟨2, .data⟩ (by simp) rfl
                have HL2' := Lib.hid hl2
                clear hR h12 hl2
                go_simp
                refine HC.out.mono ?_
                rintro e wy ⟨v5, rfl, h1, h2⟩
                exact hK { p with b := v5 } wy (vq4 l hl) ⟨HRr.out.1.four HL2'.out hl h1 h2, fun h => HRr.out.2 h⟩
              · obtain rfl : _ = o := Option.some.inj ho
                have HRr := Lib.hid hR
                clear hR
                go_simp
                exact hK { p with g2 := wx.heap.size } _ (vq5 l hl) ⟨HRr.out.1.five, fun h => HRr.out.2 h⟩
              · obtain rfl : _ = o := Option.some.inj ho
                have h4' := he ⟨4, .data⟩ (by simp) rfl
                have h5' := he ⟨5, .data⟩ (by simp) rfl
                exact wp_app_lit wx (.tmp 46) (.tmp 47) rfl B (Nat.le_trans HBz.out hR.1.low.size) p.b (l4 ++ [40] ++ LX) [41] rfl (hR.1.r2 h4' hl).1 p.g2 1 #[.int .u8 41] rfl (hR.1.g2 h5' hl).1 (by simp) rfl (by simp; omega) (fun v' w' h1 h2 => hK { p with c := v' } w' (vq6 l hl) ⟨hR.1.six h4' hl h1 h2, fun h => hR.2 h⟩)
              · obtain rfl : _ = o := Option.some.inj ho
                have h6' := he ⟨6, .data⟩ (by simp) rfl
                have h0' := he ⟨0, .phase⟩ (by simp) rfl
                have HRr := Lib.hid (And.intro hR (And.intro h6' h0'))
                clear hR h6' h0'
                go_simp
                exact hK { p with d := p.c } wx (vq7 l hl) ⟨HRr.out.1.1.seven HRr.out.2.1, fun _ => HRr.out.2.2⟩
              · simp at ho
            · intro p l wx hl hR
              have HR := Lib.hid (hR.1.r3 (hl 6 (by decide)))
              have hd := hR.1.e7 (hl 7 (by decide))
              have HLow := Lib.hid hR.1.low
              obtain ⟨pa, pb, pc, pd, pe, pf⟩ := p
              simp only at hd HR
              subst hd
              have HX6 := Lib.hid ((HLow.out.block _ (lt_of_heap HX4.out) (fun e => HO4.out e.symm)).trans HX4.out)
              have HV6 := Lib.hid HR.out.1
              have HG6 := Lib.hid (HG4.out.trans HR.out.2)
              clear hR hl HR
              go_wp2_with fail
              go_roundg g
              case measure => omega
              case rel => exact ⟨1, _, _, by omega, by go_num, rfl, HV6, HG6, HX6, Lib.hid (by rw [decide_eq_false (by omega : ¬ 1 = 0), ← HRK.out]; exact HL4.out), Lib.hid (by have := HN4.out; first | (simp; omega) | (simp at this ⊢; omega))⟩
        · exact absurd hlt (by omega)
end Go.Proofs.YthkpaelpnofbgaaGreatDoor
