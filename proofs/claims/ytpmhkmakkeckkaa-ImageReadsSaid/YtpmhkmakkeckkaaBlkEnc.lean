/-
  The landed code of layer 13: Encode. Over the program's own text.
-/
import Derived.Test.YtpmhkmakkeckkaaBlkChunk
import Derived.Test.YtpmhkmakkeckkaaPackLands
import Derived.Test.YtpmhkmakkeckkaaRegionIn
namespace Go.Proofs.Ytpmhkmakkeckkaa
open Go.RowKit Go.Shelf

attribute [local go_sem] Oper.semAt_some

def encE (l : List En) : Int := if MayE l then 0 else 1
def encX (l : List En) : List Nat := if MayE l then encN l else []
/-- What has come of parts that were handed out: their cells, their bytes. -/
def stepP (l : List En) (P : List Nat × List Nat) (k : Nat) : List Nat × List Nat := (P.1 ++ [(65536 * (enAt l (lastI l k)).1).toNat + P.2.length], P.2 ++ blkB 0 (blkOf l k))
def accP (l : List En) (ks : List Nat) : List Nat × List Nat := ks.foldl (stepP l) ([], [])
set_option maxRecDepth 100000 in
theorem accP_snoc (l : List En) (ks : List Nat) (k : Nat) : accP l (ks ++ [k]) = stepP l (accP l ks) k := by simp [accP]
set_option maxRecDepth 100000 in
theorem accP_range (l : List En) : ∀ k, 4 * k < l.length + 4 → accP l (List.range k) = (headsN l k, bytesTo l (min (4 * k) l.length))
  | 0, _ => by simp [accP, headsN, bytesTo]
  | k + 1, h => by
    have ih := accP_range l k (by omega)
    rw [List.range_succ, accP_snoc, ih, headsN_snoc, bytesTo_block (by omega)]
    unfold stepP headAt
    rw [show min (4 * k) l.length = 4 * k by omega]
set_option maxRecDepth 100000 in
/-- A block that is no cells turns: what one owns stays. -/
theorem own_turn {W W' : World} {row : Option Nat} {base size n : Nat} {e : TypeId} {v : Value} {xs : List Value} (hr : W.ownsRow base e size v n xs) (hg : W.grownBy W' row) (hrow : ∀ r, row = some r → ∃ o : Obj, W.heap[r]? = some o ∧ o.isCells = false) : W'.ownsRow base e size v n xs := by
  refine hr.kept hg ?_
  rcases hr.2 with ⟨rfl, _⟩ | ⟨g, cap, cur, rfl, _, hgb, _⟩
  · exact .inl rfl
  · refine .inr fun e' => ?_
    obtain ⟨o, ho, hc⟩ := hrow g (by simpa [Value.ownBlock] using e'.symm)
    rw [hgb] at ho; cases ho; cases hc
set_option maxRecDepth 100000 in
theorem box_turn {W W' : World} {row : Option Nat} {B : Nat} {t : TypeId} {v : Value} (h : Boxed W B t v) (hg : W.grownBy W' row) (hrow : ∀ r, row = some r → ∃ o : Obj, W.heap[r]? = some o ∧ o.isCells = false) : Boxed W' B t v := by
  refine h.kept hg fun e' => ?_
  obtain ⟨o, ho, hc⟩ := hrow B e'.symm
  rw [show W.heap[B]? = _ from h] at ho; cases ho; cases hc
/-- Both variables, what they hold; the iterator's two. -/
structure EncB (W : World) (b0 b1 bs bn : Nat) (vs : Value) (vc vx vb : Value) (A B : List Nat) (w : World) : Prop where
  bC : Boxed w b0 26 vc
  bB : Boxed w b1 46 vx
  bS : Boxed w bs 42 vs
  bN : Boxed w bn 3 (.int .i64 4)
  oC : OwnN 47 .u32 w W.heap.size vc A
  oB : OwnN 5 .u8 w W.heap.size vb B
  low : Below W.heap.size W w
structure EncI (W : World) (b0 b1 bs bn N : Nat) (vs : Value) (l : List En) (pre : List (Part4 N)) (w : World) : Prop where
  vars : ∃ vc vb, EncB W b0 b1 bs bn vs vc vb vb (N :: (accP l (pre.map (·.1))).1) (accP l (pre.map (·.1))).2 w
set_option maxRecDepth 100000 in
theorem encI_own {W : World} {b0 b1 bs bn N B : Nat} {vs : Value} {l : List En} (hB : W.heap.size ≤ B) : OwnFrom B (EncI W b0 b1 bs bn N vs l) := by
  rintro s X Y row ⟨⟨vc, vb, h⟩⟩ hg hr
  have hr2 : ∀ r, row = some r → ∃ o : Obj, X.heap[r]? = some o ∧ o.isCells = false := fun r e => (hr r e).2
  exact ⟨⟨vc, vb, box_turn h.bC hg hr2, box_turn h.bB hg hr2, box_turn h.bS hg hr2, box_turn h.bN hg hr2, own_turn h.oC hg hr2, own_turn h.oB hg hr2, h.low.grown hg h.low.size (fun k e => Nat.le_trans hB (hr k e).1)⟩⟩
section
variable {W w w1 : World} {b0 b1 bs bn : Nat} {vs vc vx vb : Value} {A B : List Nat}
set_option maxRecDepth 100000 in
theorem EncB.below {w' : World} (h : EncB W b0 b1 bs bn vs vc vx vb A B w) (hb : Below w.heap.size w w') : EncB W b0 b1 bs bn vs vc vx vb A B w' :=
  ⟨block_below h.bC hb, block_below h.bB hb, block_below h.bS hb, block_below h.bN hb, h.oC.below hb, h.oB.below hb, low_more h.low hb⟩
set_option maxRecDepth 100000 in
theorem keeps_below {w w' : World} (hb : Below w.heap.size w w') : KeepsOthers w w' := ⟨hb.size, fun k _ hk _ => (hb.block k (lt_of_heap hk)).trans hk⟩
set_option maxRecDepth 100000 in
theorem row_set {e t : TypeId} {w : World} {base size n b : Nat} {v u u2 : Value} {xs : List Value} (h : w.ownsRow base e size v n xs) (hb : Boxed w b t u) (ht : t ≠ e) : (w.setCell ⟨b, 0, none⟩ u2).ownsRow base e size v n xs :=
  h.kept (grownBy_setCell' w b u2) (.inr (hb.not_row ht h).symm)
set_option maxRecDepth 100000 in
theorem box_set {w : World} {b b2 : Nat} {t t2 : TypeId} {u u2 x : Value} (h : Boxed w b t u) (hne : b ≠ b2) (_ : Boxed w b2 t2 u2) : Boxed (w.setCell ⟨b2, 0, none⟩ x) b t u := h.kept (grownBy_setCell' w b2 x) (by simpa using hne)
set_option maxRecDepth 100000 in
theorem keeps_grown {e : TypeId} {base size n : Nat} {v : Value} {xs : List Value} {w w1 : World} (h : w.ownsRow base e size v n xs) (hg : w.grownBy w1 v.ownBlock) : KeepsOthers w w1 := KeepsOthers.of_grownBy hg fun j o ej hj => by
  rcases h.2 with ⟨rfl, _⟩ | ⟨g, cap, cur, rfl, _, hgb, _⟩
  · simp [Value.ownBlock] at ej
  · obtain rfl : g = j := by simpa [Value.ownBlock] using ej
    rw [hgb] at hj; cases hj; rfl
set_option maxRecDepth 100000 in
/-- A cell more. -/
theorem EncB.moreC {x n : Nat} {v' : Value} (h : EncB W b0 b1 bs bn vs vc vx vb A B w) (hn : A.length = n) (hd : b0 ≠ b1 ∧ b0 ≠ bs ∧ b0 ≠ bn ∧ W.heap.size ≤ b0) (ho : w1.ownsRow W.heap.size 47 1 v' (n + 1) (numC .u32 A ++ [.int .u32 (x : Int)])) (hg : w.grownBy w1 vc.ownBlock) :
    Boxed w1 b0 26 vc ∧ EncB W b0 b1 bs bn vs v' vx vb (A ++ [x]) B (w1.setCell ⟨b0, 0, none⟩ v') ∧ KeepsOthers w (w1.setCell ⟨b0, 0, none⟩ v') := by
  subst hn
  have c1 : Boxed w1 b0 26 vc := grown_block h.oC hg h.bC (by decide)
  have c2 : Boxed w1 b1 46 vx := grown_block h.oC hg h.bB (by decide)
  have c3 : Boxed w1 bs 42 vs := grown_block h.oC hg h.bS (by decide)
  have c4 : Boxed w1 bn 3 (.int .i64 4) := grown_block h.oC hg h.bN (by decide)
  have c5 := row_grown h.oC hg h.oB (by decide)
  refine ⟨c1, ⟨c1.set v', box_set c2 (Ne.symm hd.1) c1, box_set c3 (Ne.symm hd.2.1) c1, box_set c4 (Ne.symm hd.2.2.1) c1, ?_, row_set c5 c1 (by decide), ?_⟩, (keeps_grown h.oC hg).trans (KeepsOthers.setCell _ _ _)⟩
  · unfold OwnN
    rw [numC_snoc, List.length_append]
    exact row_set ho c1 (by decide)
  · exact (h.low.grown hg h.low.size (fun k hk => (World.ownsRow.lt h.oC k hk).1)).setCell (p := ⟨b0, 0, none⟩) hd.2.2.2 v'
set_option maxRecDepth 100000 in
/-- Bytes more, not yet stored; and stored. -/
theorem EncB.appB {M : List Nat} {v' : Value} {n m : Nat} (h : EncB W b0 b1 bs bn vs vc vx vb A B w) (hn : B.length = n) (hm : M.length = m) (ho : w1.ownsRow W.heap.size 5 1 v' (n + m) (numC .u8 B ++ numC .u8 M)) (hg : w.grownBy w1 vb.ownBlock) :
    EncB W b0 b1 bs bn vs vc vx v' A (B ++ M) w1 ∧ KeepsOthers w w1 := by
  subst hn hm
  refine ⟨⟨grown_block h.oB hg h.bC (by decide), grown_block h.oB hg h.bB (by decide), grown_block h.oB hg h.bS (by decide), grown_block h.oB hg h.bN (by decide), row_grown h.oB hg h.oC (by decide), ?_, ?_⟩, keeps_grown h.oB hg⟩
  · unfold OwnN
    rw [numC_append, List.length_append]
    exact ho
  · exact h.low.grown hg h.low.size (fun k hk => (World.ownsRow.lt h.oB k hk).1)
set_option maxRecDepth 100000 in
theorem EncB.storeB (h : EncB W b0 b1 bs bn vs vc vx vb A B w) (hd : b1 ≠ b0 ∧ b1 ≠ bs ∧ b1 ≠ bn ∧ W.heap.size ≤ b1) : EncB W b0 b1 bs bn vs vc vb vb A B (w.setCell ⟨b1, 0, none⟩ vb) ∧ KeepsOthers w (w.setCell ⟨b1, 0, none⟩ vb) :=
  ⟨⟨box_set h.bC (Ne.symm hd.1) h.bB, h.bB.set vb, box_set h.bS (Ne.symm hd.2.1) h.bB, box_set h.bN (Ne.symm hd.2.2.1) h.bB, row_set h.oC h.bB (by decide), row_set h.oB h.bB (by decide), h.low.setCell (p := ⟨b1, 0, none⟩) hd.2.2.2 vb⟩, KeepsOthers.setCell _ _ _⟩
set_option maxRecDepth 100000 in
theorem own_defer {W W' : World} {base size n D : Nat} {e : TypeId} {v : Value} {xs : List Value} {o : Obj} (hr : W.ownsRow base e size v n xs) (hg : W.grownBy W' v.ownBlock) (h : W.heap[D]? = some o) (hc : o.isCells = false := by rfl) : W'.heap[D]? = some o := (keeps_grown hr hg).same D o h hc
set_option maxRecDepth 100000 in
/-- Cells behind cells, as an operation of a region that draws. -/
theorem op_append_u32 {w W : World} {o : Oper} {a : Act} {K : Act → World → Prop} {Q : Exit → Act → World → Prop} (s x : Operand) (hop : o.op = .call { callee := .builtin .append, args := #[s, x], argTypes := #[26, 26] })
    (v : Value) (A B : List Nat) (hs : a.eval s = v) (hlow : Below W.heap.size W w) (hown : OwnN 47 .u32 w W.heap.size v A) (oa : Option Addr) (c n : Nat) (hn : B.length = n) (hx : a.eval x = .slice oa n c) (hB : ReadN .u32 w oa B) (h0 : oa = none → c = 0) (hc : n ≤ c) (hl : A.length + n ≤ 1000000)
    (h : ∀ v' w', OwnN 47 .u32 w' W.heap.size v' (A ++ B) → w.grownBy w' v.ownBlock → K (a.put o.dst v') w') : o.wp Try.prog a w K Q := by
  obtain ⟨i0, hi, hz0, hz1, hz2⟩ := info_parts info_u32
  subst hn
  cases oa with
  | none =>
    have hc0 := h0 rfl
    have hB0 : B = [] := List.eq_nil_of_length_eq_zero (by omega)
    subst hB0 hc0
    have hrun := run_append_owned_none (P := Try.prog) (w := w) W.heap.size 26 o.type 47 i0 1 Try.underlying26 hi v A.length (numC .u32 A) hown
    have hk := h v w (by rw [List.append_nil]; exact hown) (World.grownBy.refl w _)
    unfold Oper.wp
    simp only [List.length_nil] at hx
    simp [execOp, hop, resolve, invoke, builtin, hs, hx, hrun, Result.andThen]
    exact hk
  | some ad =>
    refine wp_append_own w s x 26 hop W.heap.size 47 i0 _ 1 4 Try.underlying26 hi hz0 hz1 hz2 rfl (by decide) v A.length (numC .u32 A) hs hown ad B.length c (numC .u32 B) hx (by rw [numC_length, Nat.mul_one]) hB.cells (numC_one .u32 B) (by unfold maxLen; omega) (by omega) hlow.size ?_
    intro v' w' ho hg _
    exact h v' w' (by unfold OwnN; rw [numC_append, List.length_append]; exact ho) hg
set_option maxRecDepth 100000 in
theorem own_nonnil {t : TypeId} {k : IntKind} {w : World} {base : Nat} {v : Value} {l : List Nat} (h : OwnN t k w base v l) (h0 : 0 < l.length) : v ≠ .slice none 0 0 := by
  rintro rfl
  rcases h.2 with ⟨_, h1⟩ | ⟨g, cap, cur, e, _⟩
  · omega
  · cases e
set_option maxRecDepth 100000 in
theorem slice_of {w : World} {base size n : Nat} {e : TypeId} {v : Value} {xs : List Value} (h0 : 0 < n) (h : w.ownsRow base e size v n xs) : ∃ g c, v = .slice (some ⟨g, 0, none⟩) n c := by
  rcases h.2 with ⟨_, h1⟩ | ⟨g, cap, cur, h1, _⟩
  · omega
  · exact ⟨g, cap, h1⟩
end
set_option maxRecDepth 100000 in
theorem goodP_of : ∀ (l : List Int) (a : Int), 0 ≤ a → riseB a l = true → GoodP a l
  | [], _, _, _ => trivial
  | p :: l, a, h0, h => by
    unfold riseB at h
    split at h
    · cases h
    rename_i hp
    exact ⟨h0, by omega, by omega, goodP_of l p (by omega) h⟩
set_option maxRecDepth 100000 in
theorem goodP_first {l : List Int} (h : UpP l) : GoodP 0 l := by
  cases l with
  | nil => trivial
  | cons p l =>
    have h2 := (rise_up _).2 h
    unfold riseB at h2
    split at h2
    · cases h2
    rename_i hp
    exact ⟨by omega, by omega, by omega, goodP_of l p (by omega) h2⟩
set_option maxRecDepth 100000 in
theorem goodB_take {l : List En} (h : MayE l) : ∀ (m s : Nat) (a : Int), s + m ≤ l.length → 0 ≤ a → (∀ j, s ≤ j → j < l.length → a ≤ (enAt l j).1) → GoodB a ((l.drop s).take m)
  | 0, s, a, _, _, _ => by simp [GoodB]
  | m + 1, s, a, hs, h0, ha => by
    have hi : s < l.length := by omega
    have hd := may_doc h hi
    obtain ⟨_, h1, h2, h3⟩ := h.2 s hi
    rw [drop_en (enAt_lt hi), List.take_succ_cons]
    refine ⟨h0, ha s (Nat.le_refl _) hi, hd.2, h2, goodP_first h3, goodB_take h m (s + 1) _ (by omega) hd.1 fun j hj hjl => ?_⟩
    have hup : ∀ t, s + t < l.length → (enAt l s).1 ≤ (enAt l (s + t)).1 := by
      intro t
      induction t with
      | zero => intro _; exact Int.le_refl _
      | succ t ih =>
        intro ht
        have := (h.2 (s + (t + 1)) ht).1.2.2 (by omega)
        rw [doc_map, doc_map, show s + (t + 1) - 1 = s + t by omega] at this
        have := ih (by omega)
        omega
    have := hup (j - s) (by omega)
    rwa [show s + (j - s) = j by omega] at this
set_option maxRecDepth 100000 in
theorem blkB_len : ∀ (r : List En) (a : Int), GoodB a r → (blkB a r).length ≤ 774 * r.length
  | [], _, _ => by simp [blkB]
  | e :: r, a, h => by
    obtain ⟨h0, h1, h2, h3, h4, h5⟩ := h
    have ih := blkB_len r e.1 h5
    have := put_len3 (n := (e.1 - a).toNat) (by omega)
    have := put_len3 (n := e.2.length) (by omega)
    have hp : ∀ (l : List Int) (a : Int), a ≤ 65535 → GoodP a l → (posB a l).length ≤ 3 * l.length := by
      intro l
      induction l with
      | nil => intro a _ _; simp [posB]
      | cons p l ih =>
        rintro a ha ⟨g0, g1, g2, g3⟩
        have := ih p g2 g3
        have := put_len3 (n := (p - a).toNat) (by omega)
        simp only [posB, List.length_append, List.length_cons]
        omega
    have := hp e.2 0 (by omega) h4
    simp only [blkB, entB, List.length_append, List.length_cons]
    omega
set_option maxRecDepth 100000 in
theorem goodB_blk {l : List En} (h : MayE l) {k : Nat} : GoodB 0 (blkOf l k) := by
  unfold blkOf
  rw [show (l.drop (4 * k)).take 4 = (l.drop (4 * k)).take (min 4 (l.length - 4 * k)) from List.take_eq_take_iff.2 (by rw [List.length_drop]; omega)]
  by_cases hk : 4 * k ≤ l.length
  · exact goodB_take h _ _ 0 (by omega) (by omega) fun j _ hj => (may_doc h hj).1
  · rw [show min 4 (l.length - 4 * k) = 0 by omega, List.take_zero]
    trivial
set_option maxRecDepth 100000 in
theorem blk_len {l : List En} (h : MayE l) (k : Nat) : (blkB 0 (blkOf l k)).length ≤ 3096 := by
  have h1 := blkB_len _ 0 (goodB_blk h (k := k))
  have h2 := blkOf_length (l := l) (k := k)
  omega
set_option maxRecDepth 100000 in
theorem blkB_pos (a : Int) (r : List En) (h : 0 < r.length) : 0 < (blkB a r).length := by
  cases r with
  | nil => simp at h
  | cons e r =>
    simp only [blkB, entB, List.length_append]
    have := (put_len 4 (e.1 - a).toNat).1
    unfold putN
    omega
set_option maxRecDepth 100000 in
theorem accF_len {l : List En} (h : MayE l) : ∀ (ks : List Nat) (P : List Nat × List Nat), (ks.foldl (stepP l) P).2.length ≤ P.2.length + 3096 * ks.length ∧ (ks.foldl (stepP l) P).1.length = P.1.length + ks.length
  | [], P => by simp
  | k :: ks, P => by
    have := blk_len h k
    have ih := accF_len h ks (stepP l P k)
    rw [List.foldl_cons]
    simp only [stepP, List.length_append, List.length_cons, List.length_nil] at ih ⊢
    omega
set_option maxRecDepth 100000 in
theorem accP_len {l : List En} (h : MayE l) (ks : List Nat) : (accP l ks).2.length ≤ 3096 * ks.length ∧ (accP l ks).1.length = ks.length := by
  have := accF_len h ks ([], [])
  simpa [accP] using this

set_option maxRecDepth 100000 in
set_option maxHeartbeats 4000000 in
theorem lands_encode (W : World) (oa : Option Addr) (c N : Nat) (l : List En) (en : l.length = N) (ha : ReadE W oa l) (hc : N ≤ c) (hl : N ≤ 100000) :
    Calls Try.prog 25 #[.slice oa N c] W fun e w' => ∃ v, e = .returned (.tuple #[v, .int .i64 (encE l)]) ∧ OwnN 47 .u32 w' W.heap.size v (encX l) ∧ Below W.heap.size W w' := by
  refine (callsIn_wide (n := 5)).1 ?_
  refine callsIn_of_wp_marks Try.func25 rfl trivial ?_ rfl
  simp only [Try.ntmps25, List.size_toArray, List.length_cons, List.length_nil, Nat.reduceAdd, Nat.reduceSub, Array.replicate_succ, Array.replicate_zero, List.push_toArray, List.append_toArray, List.nil_append, List.cons_append]
  have HMay := Lib.hid (lands_may13 W oa c N l en ha (by omega))
  obtain ⟨i8, e80, e81, e82, e83⟩ := info_parts info_u8
  have HI8 := Lib.hid (And.intro e80 (And.intro e81 (And.intro e82 e83)))
  obtain ⟨i4, e40, e41, e42, e43⟩ := info_parts info_u32
  have HI4 := Lib.hid (And.intro e40 (And.intro e41 (And.intro e42 e43)))
  clear e80 e81 e82 e83 e40 e41 e42 e43
  have HA := Lib.hid ha
  have HN := Lib.hid en
  clear ha en
  by_cases hm : MayE l
  · have HM := Lib.hid hm
    have h64 : N ≤ 64 := by have := hm.1; have := HN.out; omega
    have HMay := Lib.hid (show Calls _ _ _ _ _ from (show mayB l = true from decide_eq_true hm) ▸ HMay.out)
    clear hm
    refine wpIn_wide.2 ?_
    go_wp2_with fail
    refine HMay.out.mono ?_; rintro e w1 ⟨rfl, hb⟩
    go_wp2_with fail
    refine callsIn_wide.1 ((chunk_in 5 oa N c _).mono ?_); rintro e w2 ⟨rfl, hw2⟩
    obtain ⟨wB, hwB⟩ : ∃ wB, wB = ((w1.alloc (.cells #[.int .u32 (N : Int)] 47)).alloc (.cells #[.slice (some ⟨w1.heap.size, 0, none⟩) 1 1] 26)).alloc (.cells #[.slice none 0 0] 46) := ⟨_, rfl⟩
    have hs3 : wB.heap.size = w1.heap.size + 3 := by rw [hwB]; simp
    have hown : OwnN 47 .u32 (w1.alloc (.cells #[.int .u32 (N : Int)] 47)) W.heap.size (.slice (some ⟨w1.heap.size, 0, none⟩) 1 1) [N] := World.ownsRow_lit (base := W.heap.size) (e := 47) (size := 1) w1 #[.int .u32 (N : Int)] 1 hb.size (by decide) (by simp)
    have hownB : OwnN 47 .u32 wB W.heap.size (.slice (some ⟨w1.heap.size, 0, none⟩) 1 1) [N] := by rw [hwB]; exact hown.below below_al2
    have hlowB : Below W.heap.size W wB := by rw [hwB]; exact low_more hb below_al3
    have bC : Boxed wB (w1.heap.size + 1) 26 (.slice (some ⟨w1.heap.size, 0, none⟩) 1 1) := by rw [hwB]; exact heap3_1 w1 _ _ _
    have bB : Boxed wB (w1.heap.size + 1 + 1) 46 (.slice none 0 0) := by rw [hwB]; exact heap3_2 w1 _ _ _
    rw [← hwB] at hw2 ⊢
    have bS : Boxed w2 wB.heap.size 42 (.slice oa N c) := by rw [hw2]; exact heap2_0 wB _ _
    have bN : Boxed w2 (wB.heap.size + 1) 3 (.int .i64 4) := by rw [hw2]; exact heap2_1 wB _ _
    have hb2 : Below wB.heap.size wB w2 := by rw [hw2]; exact below_al2
    have hs4 : w2.heap.size = wB.heap.size + 2 := by rw [hw2]; simp
    have bC2 : Boxed w2 (w1.heap.size + 1) 26 (.slice (some ⟨w1.heap.size, 0, none⟩) 1 1) := block_below bC hb2
    have bB2 : Boxed w2 (w1.heap.size + 1 + 1) 46 (.slice none 0 0) := block_below bB hb2
    clear bC bB
    have hown := hownB.below hb2
    have hlow := low_more hlowB hb2
    obtain ⟨b0, hb0⟩ : ∃ b0, b0 = w1.heap.size + 1 := ⟨_, rfl⟩
    obtain ⟨b1, hb1⟩ : ∃ b1, b1 = w1.heap.size + 1 + 1 := ⟨_, rfl⟩
    obtain ⟨bs, hbs⟩ : ∃ bs, bs = wB.heap.size := ⟨_, rfl⟩
    obtain ⟨bn, hbn⟩ : ∃ bn, bn = wB.heap.size + 1 := ⟨_, rfl⟩
    rw [← hb1] at bB2 ⊢
    rw [← hb0] at bC2 ⊢
    rw [← hbs] at bS
    rw [← hbn] at bN
    rw [← hbs, show bs + 1 = bn by omega]
    have HI := Lib.hid (show EncI W b0 b1 bs bn N (.slice oa N c) l [] w2 from ⟨⟨_, _, bC2, bB2, bS, bN, hown, OwnN.nil _ _ _ _, hlow⟩⟩)
    have HBx := Lib.hid (And.intro bS bN)
    have HD := Lib.hid (show b0 < b1 ∧ b1 < bs ∧ bs < bn ∧ bn < w2.heap.size ∧ W.heap.size ≤ b0 by have := hb.size; omega)
    clear hwB hs3 hownB hlowB hw2 bS bN hb2 hs4 bC2 bB2 hown hlow hb0 hb1 hbs hbn hb
    go_wp2_with fail
    obtain ⟨g, o, hgo⟩ : ∃ g o, 0 < N → oa = some ⟨g, o, none⟩ := by
      by_cases h0 : 0 < N
      · obtain ⟨g, o, h, _⟩ := HA.out 0 _ (List.getElem?_eq_getElem (by rw [HN.out]; exact h0))
        exact ⟨g, o, fun _ => h⟩
      · exact ⟨0, 0, fun h => absurd h h0⟩
    have HGO := Lib.hid hgo
    have HD0 := Lib.hid (show b0 ≠ b1 ∧ b0 ≠ bs ∧ b0 ≠ bn ∧ W.heap.size ≤ b0 by have := HD.out; omega)
    have HD1 := Lib.hid (show b1 ≠ b0 ∧ b1 ≠ bs ∧ b1 ≠ bn ∧ W.heap.size ≤ b1 by have := HD.out; omega)
    clear hgo
    refine (wpIn_wide (n := 5)).1 ?_
    refine wpIn_rangeFunc_ownG rfl (by omega) (gf := 47) (lb := #[.pointer (some ⟨bs, 0, none⟩), .pointer (some ⟨bn, 0, none⟩)]) rfl trivial (enters_of Try.func47 (by kernel_rfl) rfl)
      (chunk_stops 4 (by omega) bs bn oa g o N c HGO.out hc (by omega) w2 HBx.out.1 HBx.out.2) (fun h k => ⟨Nat.le_trans h.1 k.1, k.2.1.trans h.2.1, k.2.2.trans h.2.2⟩)
      (fun W' l' o1 o2 hl' h _ _ => ⟨(grownBy_putObj' W' l' o2).size, World.putObj_heap_other (by have := HD.out; omega), World.putObj_heap_other (by have := HD.out; omega)⟩) (Below.refl _ _) (fun _ => rfl)
      (EncI W b0 b1 bs bn N (.slice oa N c) l) (fun _ _ _ => False) (encI_own (by have := HD.out; omega)) (fun _ _ _ _ _ hs _ _ => hs) HI.out
      (fun x => { tmps := #[.slice oa N c, undef, .slice none 0 0, .int .i64 0, .pointer (some ⟨b0, 0, none⟩), .pointer (some ⟨b1, 0, none⟩), partV g o N x.1, undef, undef, .slice oa N c, .bool true, .bool false, .slice oa N c, .int .i64 (N : Int), .int .u32 (N : Int), .slice (some ⟨w1.heap.size, 0, none⟩) 1 1, .slice oa N c, .func (.func 47) #[] #[.pointer (some ⟨bs, 0, none⟩), .pointer (some ⟨bn, 0, none⟩)], partV g o N x.1, undef, undef, undef, undef, undef, undef, undef, undef, undef, undef, undef, undef, undef, undef, undef, undef, undef, undef, undef, undef, undef, undef, undef, undef, undef, undef], defers := [] }) ?assign ?body ?done ?stop
    case assign =>
      intro l' x W' K hK
      gi_wp2
      exact hK
    case stop =>
      rintro D c' pre W' _ _ h _
      exact h.elim
    case body =>
      rintro l' pre ⟨k, hk⟩ W' ⟨⟨vc, vb, hE⟩⟩ hlt
      have hM := HM.out
      have hNl := HN.out
      have hAa := HA.out
      rw [HGO.out (by omega)] at hAa
      obtain ⟨m, hm⟩ : ∃ m, m = min 4 (N - 4 * k) := ⟨_, rfl⟩
      obtain ⟨off, hoff⟩ : ∃ off, off = o + 4 * k * 2 := ⟨_, rfl⟩
      have hpv : partV g o N k = .slice (some ⟨g, off, none⟩) m m := by unfold partV; rw [hm, hoff]
      obtain ⟨jx, hjx⟩ : ∃ jx, m = jx + 1 := ⟨m - 1, by omega⟩
      have hRb : ReadE W (some ⟨g, off, none⟩) (blkOf l k) := by rw [hoff]; exact (hAa.skip (4 * k)).cut 4
      have hbl : (blkOf l k).length = m := by rw [blkOf_length, hNl, hm]
      have hlast : (blkOf l k)[jx]? = some (enAt l (lastI l k)) := by
        unfold blkOf lastI
        rw [List.getElem?_take, if_pos (by omega), List.getElem?_drop, enAt_lt (by omega), show 4 * k + jx = min (4 * k + 3) (l.length - 1) by omega]
      obtain ⟨g', o', hgo', cd, _⟩ := hRb jx _ hlast
      injection hgo' with hgo'
      injection hgo' with hg1 hg2
      subst hg1 hg2
      obtain ⟨d, hd⟩ : ∃ d, d = (enAt l (lastI l k)).1 := ⟨_, rfl⟩
      rw [← hd] at cd
      have hdb := may_doc hM (i := lastI l k) (by unfold lastI; omega)
      rw [← hd] at hdb
      obtain ⟨nb, hnb⟩ : ∃ nb, (accP l (pre.map (·.1))).2.length = nb := ⟨_, rfl⟩
      obtain ⟨na, hna⟩ : ∃ na, (N :: (accP l (pre.map (·.1))).1).length = na := ⟨_, rfl⟩
      have hal := accP_len hM (pre.map (·.1))
      rw [hnb, List.length_map] at hal
      have hnbb : nb ≤ 49536 := by omega
      have hnab : na ≤ 18 := by rw [← hna, List.length_cons]; omega
      obtain ⟨X, hX⟩ : ∃ X : Nat, 65536 * d + (nb : Int) = (X : Int) := Int.eq_ofNat_of_zero_le (by omega)
      have hXw : wordX d nb = (X : Int) ∧ wordE d nb = 0 := by rw [← hX]; exact wordX_in ⟨hdb.1, hdb.2, by omega, by omega⟩
      have HStep := Lib.hid (show accP l ((pre ++ [(⟨k, hk⟩ : Part4 N)]).map (·.1)) = ((accP l (pre.map (·.1))).1 ++ [X], (accP l (pre.map (·.1))).2 ++ blkB 0 (blkOf l k)) by
        rw [List.map_append, List.map_singleton, accP_snoc]
        unfold stepP
        rw [hnb, ← hd, show (65536 * d).toNat + nb = X by omega])
      have HWord := Lib.hid (fun w => lands_word w d (nb : Int) (by omega) (by omega) (by omega) (by omega))
      rw [hXw.1, hXw.2] at HWord
      have hrb2 : ReadE W' (some ⟨g, off, none⟩) (blkOf l k) := hRb.below hE.low
      have HRb := Lib.hid hrb2
      have hM2 : (blkB 0 (blkOf l k)).length ≤ 3096 := blk_len hM k
      have HPut := Lib.hid (fun (w : World) (h : ReadE w (some ⟨g, off, none⟩) (blkOf l k)) => lands_put13 w (some ⟨g, off, none⟩) m m (blkOf l k) hbl h (by omega) (goodB_blk hM) (by omega))
      have cd := below_cell cd hE.low
      obtain ⟨Z, hZ⟩ : ∃ Z, blkB 0 (blkOf l k) = Z := ⟨_, rfl⟩
      rw [hZ] at HStep HPut hM2
      have hZ1 : 0 < Z.length := by
        rw [← hZ]
        exact blkB_pos _ _ (by omega)
      obtain ⟨zl, hzl⟩ : ∃ zl, Z.length = zl := ⟨_, rfl⟩
      have HZl := Lib.hid hzl
      have HZp := Lib.hid hZ1
      have HZb := Lib.hid (show 0 < zl ∧ zl ≤ 3096 by omega)
      have HRb0 := Lib.hid hRb
      have HStep := Lib.hid (show N :: (accP l ((pre ++ [(⟨k, hk⟩ : Part4 N)]).map (·.1))).1 = (N :: (accP l (pre.map (·.1))).1) ++ [X] ∧ (accP l ((pre ++ [(⟨k, hk⟩ : Part4 N)]).map (·.1))).2 = (accP l (pre.map (·.1))).2 ++ Z by rw [HStep.out]; exact ⟨rfl, rfl⟩)
      clear hzl hZ1
      obtain ⟨A, hA⟩ : ∃ A, N :: (accP l (pre.map (·.1))).1 = A := ⟨_, rfl⟩
      obtain ⟨B, hB⟩ : ∃ B, (accP l (pre.map (·.1))).2 = B := ⟨_, rfl⟩
      rw [hA] at hna hE HStep
      rw [hB] at hnb hE HStep
      obtain ⟨ob, cb, rfl⟩ := hE.oB.slice nb hnb
      obtain ⟨oc, cc, rfl⟩ := hE.oC.slice na hna
      have HE := Lib.hid hE
      have c0 := hE.bB.cell
      have q1 : (m : Int) - 1 = (jx : Int) := by omega
      have q2 : IntKind.i64.wrap ((m : Int) - 1) = (jx : Int) := by rw [q1]; exact IntWalk.i64_in _ (by omega)
      have HNum := Lib.hid (And.intro hna hnb)
      have HX := Lib.hid (show (X : Int) ≤ 4294967295 by omega)
      have q3 : IntKind.i64.wrap (jx : Int) = (jx : Int) := IntWalk.i64_in _ (by omega)
      have hjm : jx < m := by omega
      have hm4 : m ≤ 4 := by omega
      dsimp only
      rw [hpv]
      clear hM hNl hAa hm hoff hpv hjx hRb hbl hlast hd hnb hna hal hX hXw hrb2 hZ hA hB hE hdb
      have cd0 : W'.drew.cell? ⟨g, off + jx * 2, none⟩ = some (.int .i64 d) := cd
      have c00 : W'.drew.cell? ⟨b1, 0, none⟩ = some (.slice ob nb cb) := c0
      gi_wp2
      refine wpIn_region_cl (fun (p : Unit) jz => [.slice (some ⟨g, off, none⟩) m m, .slice (some ⟨g, off, none⟩) m m, .int .i64 (m : Int), .int .i64 (jx : Int), .pointer (some ⟨g, off + jx * 2, none⟩), .pointer (some ⟨g, off + jx * 2, none⟩), .int .i64 d, .slice ob nb cb, .int .i64 (nb : Int), .tuple #[.int .u32 (X : Int), .int .i64 0], .tuple #[.int .u32 (X : Int), .int .i64 0], .int .u32 (X : Int), .int .i64 0, .int .u32 (X : Int), .int .i64 0].getD jz undef)
        (fun p l wx => wx = W'.drew)
        (by kernel_rfl) (by kernel_rfl) (by kernel_rfl) (fun q => by simp only [putTo, dstOf, Act.put, List.size_toArray, List.length_cons, List.length_nil, List.getElem?_toArray, Nat.reduceAdd, Option.bind_some, List.getElem?_cons_zero, List.getElem?_cons_succ, List.setIfInBounds_toArray, List.set_cons_zero, List.set_cons_succ, List.getD_cons_zero, List.getD_cons_succ]; exact rfl) () ?_ ?_ ?_
      · rfl
      · intro i o ho p l wx hR hl he hcl K hK
        rcases i with _ | _ | _ | _ | _ | _ | _ | _ | _ | _ | _ | _ | _ | _ | _ | i
        · obtain rfl : _ = o := Option.some.inj ho
          subst hR
          go_simp
          exact hK p _ (fun _ _ => rfl) rfl
        · obtain rfl : _ = o := Option.some.inj ho
          subst hR
          go_simp
          exact hK p _ (fun _ _ => rfl) rfl
        · obtain rfl : _ = o := Option.some.inj ho
          subst hR
          go_simp
          exact hK p _ (fun _ _ => rfl) rfl
        · obtain rfl : _ = o := Option.some.inj ho
          subst hR
          go_simp
          exact hK p _ (fun _ _ => rfl) rfl
        · obtain rfl : _ = o := Option.some.inj ho
          subst hR
          go_simp
          exact hK p _ (fun _ _ => rfl) rfl
        · obtain rfl : _ = o := Option.some.inj ho
          subst hR
          go_simp
          exact hK p _ (fun _ _ => rfl) rfl
        · obtain rfl : _ = o := Option.some.inj ho
          subst hR
          have q := cd0
          go_simp
          exact hK p _ (fun _ _ => rfl) rfl
        · obtain rfl : _ = o := Option.some.inj ho
          subst hR
          have q := c00
          go_simp
          exact hK p _ (fun _ _ => rfl) rfl
        · obtain rfl : _ = o := Option.some.inj ho
          subst hR
          go_simp
          exact hK p _ (fun _ _ => rfl) rfl
        · obtain rfl : _ = o := Option.some.inj ho
          subst hR
          go_simp
          refine (HWord.out _).mono ?_
          rintro e w3 ⟨rfl, rfl⟩
          exact hK p _ (fun _ _ => rfl) rfl
        · obtain rfl : _ = o := Option.some.inj ho
          subst hR
          go_simp
          exact hK p _ (fun _ _ => rfl) rfl
        · obtain rfl : _ = o := Option.some.inj ho
          subst hR
          go_simp
          exact hK p _ (fun _ _ => rfl) rfl
        · obtain rfl : _ = o := Option.some.inj ho
          subst hR
          go_simp
          exact hK p _ (fun _ _ => rfl) rfl
        · obtain rfl : _ = o := Option.some.inj ho
          subst hR
          go_simp
          exact hK p _ (fun _ _ => rfl) rfl
        · obtain rfl : _ = o := Option.some.inj ho
          subst hR
          go_simp
          exact hK p _ (fun _ _ => rfl) rfl
        · simp at ho
      · intro p l wx hl hR
        subst hR
        clear cd0 c00 cd c0
        have HEd := Lib.hid (show EncB W b0 b1 bs bn (.slice oa N c) (.slice oc na cc) (.slice ob nb cb) (.slice ob nb cb) A B W'.drew from HE.out.below (Below.refl _ _).drew)
        have HKd := Lib.hid (KeepsOthers.drew W')
        generalize W'.drew = wd at HEd HKd ⊢
        have e0 := HEd.out.bC.cell
        have HRow := Lib.hid (show (wd.alloc (.cells #[.int .u32 (X : Int)] 47)).ownsRow W.heap.size 47 1 (.slice oc na cc) na (numC .u32 A) from World.ownsRow.alloc (HNum.out.1 ▸ HEd.out.oC) _)
        have HAl := Lib.hid (HEd.out.below (below_one (w := wd) (A := .cells #[.int .u32 (X : Int)] 47)))
        have hsz := HEd.out.low.size
        gi_wp2_with (gi_at_builtin; refine wpListIn_append_own _ rfl (.tmp 32) (.tmp 34) 26 rfl W.heap.size 47 i4 _ 1 4 Try.underlying26 HI4.out.1 HI4.out.2.1 HI4.out.2.2.1 HI4.out.2.2.2 rfl (by decide) _ na (numC .u32 A) rfl HRow.out ⟨_, 0, none⟩ 1 1 [.int .u32 X] rfl rfl one_cell (by simp [Value.oneCell']) (by unfold maxLen; omega) (by omega) (by simp; omega) ?_; intro v' w1' ho hg _; obtain ⟨g5, c5, rfl⟩ := ownsRow_succ ho; have hmc := HAl.out.moreC HNum.out.1 HD0.out ho hg; have e1 := hmc.1.cell; have e2 := hmc.1.frozen; have HE8 := Lib.hid hmc.2.1; have HK8 := Lib.hid (HKd.out.trans ((KeepsOthers.alloc _ _).trans hmc.2.2)); clear hmc ho hg)
        clear e0 e1 e2
        generalize World.setCell _ _ _ = w8 at HE8 HK8 ⊢
        refine wpIn_region_cl (fun (p : Value × Value) jz => [.slice ob nb cb, .slice (some ⟨g, off, none⟩) m m, p.1, p.2, undef].getD jz undef)
          (fun p l_ wx => KeepsOthers W' wx ∧ (l_ 3 = false → EncB W b0 b1 bs bn (.slice oa N c) (.slice (some ⟨g5, 0, none⟩) (na + 1) c5) (.slice ob nb cb) (.slice ob nb cb) (A ++ [X]) B wx) ∧ (l_ 2 = true → l_ 3 = false → ∃ gz cz, p.1 = .slice (some ⟨gz, 0, none⟩) zl cz ∧ zl ≤ cz ∧ ReadN .u8 wx (some ⟨gz, 0, none⟩) Z) ∧ (l_ 3 = true → l_ 4 = false → EncB W b0 b1 bs bn (.slice oa N c) (.slice (some ⟨g5, 0, none⟩) (na + 1) c5) (.slice ob nb cb) p.2 (A ++ [X]) (B ++ Z) wx ∧ ∃ gq cq, p.2 = .slice (some ⟨gq, 0, none⟩) (nb + zl) cq) ∧ (l_ 4 = true → EncB W b0 b1 bs bn (.slice oa N c) (.slice (some ⟨g5, 0, none⟩) (na + 1) c5) p.2 p.2 (A ++ [X]) (B ++ Z) wx) ∧ (l_ 3 = true → l_ 2 = true) ∧ (l_ 4 = true → l_ 3 = true) ∧ (l_ 3 = true → l_ 0 = true))
          (by kernel_rfl) (by kernel_rfl) (by kernel_rfl) (fun q => by simp only [putTo, dstOf, Act.put, List.size_toArray, List.length_cons, List.length_nil, List.getElem?_toArray, Nat.reduceAdd, Option.bind_some, List.getElem?_cons_zero, List.getElem?_cons_succ, List.setIfInBounds_toArray, List.set_cons_zero, List.set_cons_succ, List.getD_cons_zero, List.getD_cons_succ]; exact rfl) (undef, undef) ?_ ?_ ?_
        · exact ⟨HK8.out.trans (KeepsOthers.drew _), fun _ => HE8.out.below (Below.refl _ _).drew, fun h => (by cases h), fun h => (by cases h), fun h => (by cases h), fun h => (by cases h), fun h => (by cases h), fun h => (by cases h)⟩
        · intro i o ho p l_ wx hR hl he hcl K hK
          rcases i with _ | _ | _ | _ | _ | i
          · obtain rfl : _ = o := Option.some.inj ho
            have h3 : l_ 3 = false := by
              cases h : l_ 3 with
              | false => rfl
              | true => exact absurd (hR.2.2.2.2.2.2.2 h) (by rw [hl]; decide)
            have q := (hR.2.1 h3).bB.cell
            have HR := Lib.hid hR
            clear hR
            go_simp
            exact hK p wx (fun _ _ => rfl) ⟨HR.out.1, HR.out.2.1, HR.out.2.2.1, HR.out.2.2.2.1, HR.out.2.2.2.2.1, HR.out.2.2.2.2.2.1, HR.out.2.2.2.2.2.2.1, fun _ => rfl⟩
          · obtain rfl : _ = o := Option.some.inj ho
            have HR := Lib.hid hR
            clear hR
            go_simp
            exact hK p wx (fun _ _ => rfl) HR.out
          · obtain rfl : _ = o := Option.some.inj ho
            have h3 : l_ 3 = false := by
              cases h : l_ 3 with
              | false => rfl
              | true => exact absurd (hR.2.2.2.2.2.1 h) (by rw [hl]; decide)
            have hE := hR.2.1 h3
            have HR := Lib.hid hR
            have H3 := Lib.hid h3
            clear hR h3
            have h4 : l_ 4 = false := by
              cases h : l_ 4 with
              | false => rfl
              | true => exact absurd (HR.out.2.2.2.2.2.2.1 h) (by rw [H3.out]; decide)
            go_simp
            refine (HPut.out wx (HRb0.out.below hE.low)).mono ?_
            rintro e w2 ⟨v, rfl, ho, hb⟩
            obtain ⟨gz, cz, rfl, hz1, _⟩ := OwnN.at_ ho (own_nonnil ho HZp.out) zl HZl.out
            obtain ⟨oz2, cz2, hv2, _, _, _, hv6⟩ := ho.reads_of zl HZl.out
            injection hv2 with hv2
            refine hK (.slice (some ⟨gz, 0, none⟩) zl cz, p.2) w2 (fun j hj => ?_) ⟨HR.out.1.trans (keeps_below hb), fun _ => hE.below hb, fun _ _ => ⟨gz, cz, rfl, hz1, hv2 ▸ hv6⟩, fun h => absurd (show l_ 3 = true from h) (by rw [H3.out]; decide), fun h => absurd (show l_ 4 = true from h) (by rw [h4]; decide), fun _ => rfl, HR.out.2.2.2.2.2.2.1, HR.out.2.2.2.2.2.2.2⟩
            rcases j with _ | _ | _ | _ | _ | j
            all_goals first | rfl | (rw [hl] at hj; cases hj)
          · obtain rfl : _ = o := Option.some.inj ho
            have h2 : l_ 2 = true := he ⟨2, .data⟩ (by simp) rfl
            have h0 : l_ 0 = true := he ⟨0, .data⟩ (by simp) rfl
            have hE := hR.2.1 hl
            obtain ⟨gz, cz, hp1, hz1, hz2⟩ := hR.2.2.1 h2 hl
            have h4 : l_ 4 = false := by
              cases h : l_ 4 with
              | false => rfl
              | true => exact absurd (hR.2.2.2.2.2.2.1 h) (by rw [hl]; decide)
            have HK1 := Lib.hid hR.1
            have H4 := Lib.hid h4
            clear hR h4
            obtain ⟨p1, p2⟩ := p
            dsimp only at hp1
            subst hp1
            refine wp_append_own wx (.tmp 36) (.tmp 38) 46 rfl W.heap.size 5 i8 _ 1 1 Try.underlying46 HI8.out.1 HI8.out.2.1 HI8.out.2.2.1 HI8.out.2.2.2 rfl (by decide) _ nb (numC .u8 B) rfl (HNum.out.2 ▸ hE.oB) ⟨gz, 0, none⟩ zl cz (numC .u8 Z) rfl (by rw [numC_length, HZl.out, Nat.mul_one]) hz2.cells (numC_one _ _) (by have := HZb.out; unfold maxLen; omega) (by have := HZb.out; omega) hE.low.size ?_
            intro v' w' ho hg _
            obtain ⟨gq, cq, hq⟩ := slice_of (show 0 < nb + zl by have := HZb.out; omega) ho
            have hm := hE.appB HNum.out.2 HZl.out ho hg
            refine hK (.slice (some ⟨gz, 0, none⟩) zl cz, v') w' (fun j hj => ?_) ⟨HK1.out.trans hm.2, fun h => (by cases h), fun _ h => (by cases h), fun _ _ => ⟨hm.1, gq, cq, hq⟩, fun h => absurd (show l_ 4 = true from h) (by rw [H4.out]; decide), fun _ => h2, fun h => rfl, fun _ => h0⟩
            rcases j with _ | _ | _ | _ | _ | j
            all_goals first | rfl | (rw [hl] at hj; cases hj)
          · obtain rfl : _ = o := Option.some.inj ho
            have h3 : l_ 3 = true := he ⟨3, .data⟩ (by simp) rfl
            obtain ⟨hE, gq, cq, hq⟩ := hR.2.2.2.1 h3 hl
            have HK1 := Lib.hid hR.1
            have HR := Lib.hid hR.2.2.2.2.2.1
            have HR0 := Lib.hid hR.2.2.2.2.2.2.2
            have H3 := Lib.hid h3
            clear hR h3
            obtain ⟨p1, p2⟩ := p
            dsimp only at hq hE
            subst hq
            have q := hE.bB.cell
            have f := hE.bB.frozen
            have hs := hE.storeB HD1.out
            have HS := Lib.hid hs
            clear hs hE
            go_simp
            exact hK (p1, _) _ (fun _ _ => rfl) ⟨HK1.out.trans HS.out.2, fun h => absurd H3.out (by rw [show l_ 3 = false from h]; decide), fun _ h => absurd H3.out (by rw [show l_ 3 = false from h]; decide), fun _ h => (by cases h), fun _ => HS.out.1, HR.out, fun _ => H3.out, HR0.out⟩
          · simp at ho
        · intro p lz wx hl hR
          have HE9 := Lib.hid (hR.2.2.2.2.1 (hl 4 (by decide)))
          have HK9 := Lib.hid hR.1
          clear hR hl
          gi_wp2
          exact ⟨HK9.out.from _, ⟨HK9.out.size, HE9.out.bS.trans HE.out.bS.symm, HE9.out.bN.trans HE.out.bN.symm⟩, ⟨⟨_, _, by rw [HStep.out.1, HStep.out.2]; exact HE9.out⟩⟩⟩
    case done =>
      rintro D ys W' hDl hys ⟨⟨vc, vb, hE⟩⟩ hK
      have hN' : (N + 3) / 4 = (l.length + 3) / 4 := by rw [HN.out]
      rw [hys, hN', accP_range l _ (by omega), show min (4 * ((l.length + 3) / 4)) l.length = l.length by omega] at hE
      dsimp only at hE
      have hM := HM.out
      have hbl := bytesTo_len hM l.length (Nat.le_refl _)
      have hNl := HN.out
      obtain ⟨S, hS⟩ : ∃ S, S = byteText (bytesTo l l.length) := ⟨_, rfl⟩
      have hSb : bytesL S = bytesTo l l.length := by rw [hS]; exact bytesL_byteText _ (bytesTo_byte hM _ (Nat.le_refl _))
      have hSs : S.size ≤ 1000000 := by rw [← bytesL_length, hSb]; omega
      have HConv := Lib.hid (fun (w : World) (base : Nat) (v : Value) (h : OwnN 5 .u8 w base v (bytesTo l l.length)) => (bytes_string (show BytesIn w base v (bytesTo l l.length) from h) (bytesTo_byte hM _ (Nat.le_refl _))))
      have HCells := Lib.hid (fun w => lands_cells w S hSs)
      rw [hSb] at HCells
      rw [← hS] at HConv
      have hZl := cellsN_length (bytesTo l l.length)
      have HOut := Lib.hid (show encX l = (N :: headsN l ((l.length + 3) / 4)) ++ cellsN (bytesTo l l.length) by rw [show encX l = encN l from if_pos hM]; unfold encN; rw [hNl]; rfl)
      obtain ⟨nb, hnb⟩ : ∃ nb, (bytesTo l l.length).length = nb := ⟨_, rfl⟩
      obtain ⟨na, hna⟩ : ∃ na, (N :: headsN l ((l.length + 3) / 4)).length = na := ⟨_, rfl⟩
      have hnab : na ≤ 18 := by rw [← hna, List.length_cons, headsN_length]; omega
      obtain ⟨B, hB⟩ : ∃ B, bytesTo l l.length = B := ⟨_, rfl⟩
      rw [hB] at hE hnb hbl hZl HOut HConv HCells
      obtain ⟨A, hA⟩ : ∃ A, N :: headsN l ((l.length + 3) / 4) = A := ⟨_, rfl⟩
      rw [hA] at hE hna HOut
      obtain ⟨Z, hZ⟩ : ∃ Z, cellsN B = Z := ⟨_, rfl⟩
      rw [hZ] at hZl HOut HCells
      obtain ⟨zl, hzl⟩ : ∃ zl, Z.length = zl := ⟨_, rfl⟩
      have hzb : zl ≤ 20000 := by omega
      have HNum := Lib.hid (And.intro hna (And.intro hnb hzl))
      obtain ⟨ob, cb, rfl⟩ := hE.oB.slice nb hnb
      obtain ⟨oc, cc, rfl⟩ := hE.oC.slice na hna
      have HE := Lib.hid hE
      have HK := Lib.hid hK
      have HDl := Lib.hid (Nat.le_trans HI.out.vars.choose_spec.choose_spec.low.size hDl)
      have c0 := hE.bB.cell
      have c1 := hE.bC.cell
      clear hN' hM hbl hNl hS hSb hSs hZl hna hnb hB hA hZ hzl hE hK hys
      go_wp2_with fail
      refine wp_region_cl (fun (p : Value × Value) jz => [.slice oc na cc, .slice ob nb cb, .string S, p.1, p.2, p.2, .int .i64 0].getD jz undef)
        (fun p l_ wx => Below W.heap.size W wx ∧ wx.heap[D]? = some (.deferred (some [])) ∧ (l_ 4 = false → EncB W b0 b1 bs bn (.slice oa N c) (.slice oc na cc) (.slice ob nb cb) (.slice ob nb cb) A B wx) ∧ (l_ 3 = true → l_ 4 = false → ∃ oz cz, p.1 = .slice oz zl cz ∧ zl ≤ cz ∧ (oz = none → cz = 0) ∧ ReadN .u32 wx oz Z) ∧ (l_ 4 = true → OwnN 47 .u32 wx W.heap.size p.2 (A ++ Z)) ∧ (l_ 4 = true → l_ 3 = true) ∧ (l_ 4 = true → l_ 0 = true) ∧ (l_ 3 = true → l_ 2 = true) ∧ (l_ 2 = true → l_ 1 = true))
        (by kernel_rfl) (by kernel_rfl) (fun q => by simp only [putTo, dstOf, Act.put, List.size_toArray, List.length_cons, List.length_nil, List.getElem?_toArray, Nat.reduceAdd, Option.bind_some, List.getElem?_cons_zero, List.getElem?_cons_succ, List.setIfInBounds_toArray, List.set_cons_zero, List.set_cons_succ, List.getD_cons_zero, List.getD_cons_succ]; exact rfl) (undef, undef) ?_ ?_ ?_
      · exact ⟨HE.out.low.drew, HK.out, fun _ => HE.out.below (Below.refl _ _).drew, fun h => (by cases h), fun h => (by cases h), fun h => (by cases h), fun h => (by cases h), fun h => (by cases h), fun h => (by cases h)⟩
      · intro i o ho p l_ wx hR hl he hcl K hK
        rcases i with _ | _ | _ | _ | _ | _ | _ | i
        · obtain rfl : _ = o := Option.some.inj ho
          have h4 : l_ 4 = false := by
            cases h : l_ 4 with
            | false => rfl
            | true => exact absurd (hR.2.2.2.2.2.2.1 h) (by rw [hl]; decide)
          have q := (hR.2.2.1 h4).bC.cell
          have HR := Lib.hid hR
          clear hR
          go_simp
          exact hK p wx (fun _ _ => rfl) ⟨HR.out.1, HR.out.2.1, HR.out.2.2.1, HR.out.2.2.2.1, HR.out.2.2.2.2.1, HR.out.2.2.2.2.2.1, fun _ => rfl, HR.out.2.2.2.2.2.2.2.1, HR.out.2.2.2.2.2.2.2.2⟩
        · obtain rfl : _ = o := Option.some.inj ho
          have h4 : l_ 4 = false := by
            cases h : l_ 4 with
            | false => rfl
            | true => exact absurd (hR.2.2.2.2.2.2.2.2 (hR.2.2.2.2.2.2.2.1 (hR.2.2.2.2.2.1 h))) (by rw [hl]; decide)
          have q := (hR.2.2.1 h4).bB.cell
          have HR := Lib.hid hR
          clear hR
          go_simp
          exact hK p wx (fun _ _ => rfl) ⟨HR.out.1, HR.out.2.1, HR.out.2.2.1, HR.out.2.2.2.1, HR.out.2.2.2.2.1, HR.out.2.2.2.2.2.1, HR.out.2.2.2.2.2.2.1, HR.out.2.2.2.2.2.2.2.1, fun _ => rfl⟩
        · obtain rfl : _ = o := Option.some.inj ho
          have h4 : l_ 4 = false := by
            cases h : l_ 4 with
            | false => rfl
            | true => exact absurd (hR.2.2.2.2.2.2.2.1 (hR.2.2.2.2.2.1 h)) (by rw [hl]; decide)
          have q := HConv.out wx _ _ (hR.2.2.1 h4).oB
          have h1 := he ⟨1, .data⟩ (by simp) rfl
          have HR := Lib.hid hR
          clear hR
          go_simp
          exact hK p wx (fun _ _ => rfl) ⟨HR.out.1, HR.out.2.1, HR.out.2.2.1, HR.out.2.2.2.1, HR.out.2.2.2.2.1, HR.out.2.2.2.2.2.1, HR.out.2.2.2.2.2.2.1, fun _ => rfl, fun _ => h1⟩
        · obtain rfl : _ = o := Option.some.inj ho
          have h4 : l_ 4 = false := by
            cases h : l_ 4 with
            | false => rfl
            | true => exact absurd (hR.2.2.2.2.2.1 h) (by rw [hl]; decide)
          have hE := hR.2.2.1 h4
          have h2 := he ⟨2, .data⟩ (by simp) rfl
          have H4 := Lib.hid h4
          clear h4
          have HR := Lib.hid hR
          clear hR
          go_simp
          refine (HCells.out wx).mono ?_
          rintro e w2 ⟨v, rfl, ho, hb⟩
          obtain ⟨oz2, cz2, hv2, hv3, _, hv5, hv6⟩ := ho.reads_of zl HNum.out.2.2
          refine hK (v, p.2) w2 (fun j hj => ?_) ⟨low_more HR.out.1 hb, (hb.block _ (lt_of_heap HR.out.2.1)).trans HR.out.2.1, fun _ => hE.below hb, fun _ _ => ⟨oz2, cz2, hv2, hv3, hv5, hv6⟩, fun h => absurd (show l_ 4 = true from h) (by rw [H4.out]; decide), fun h => rfl, HR.out.2.2.2.2.2.2.1, fun _ => h2, HR.out.2.2.2.2.2.2.2.2⟩
          rcases j with _ | _ | _ | _ | _ | _ | _ | j
          all_goals first | rfl | (rw [hl] at hj; cases hj) | (rw [H4.out] at hj; cases hj)
        · obtain rfl : _ = o := Option.some.inj ho
          have h3 : l_ 3 = true := he ⟨3, .data⟩ (by simp) rfl
          have h0 : l_ 0 = true := he ⟨0, .data⟩ (by simp) rfl
          have hE := hR.2.2.1 hl
          obtain ⟨oz, cz, hp1, hz1, hz5, hz6⟩ := hR.2.2.2.1 h3 hl
          obtain ⟨p1, p2⟩ := p
          dsimp only at hp1
          subst hp1
          have h5 : l_ 5 = false := by
            cases h : l_ 5 with
            | false => rfl
            | true => exact absurd (hcl 5 _ rfl h ⟨4, .data⟩ (by simp) rfl) (by rw [hl]; decide)
          have HR := Lib.hid hR
          clear hR
          refine op_append_u32 (W := W) (.tmp 40) (.tmp 43) rfl _ A Z rfl hE.low hE.oC oz cz zl HNum.out.2.2 rfl hz6 hz5 hz1 (by have := HNum.out.1; omega) ?_
          intro v' w' ho hg
          refine hK (.slice oz zl cz, v') w' (fun j hj => ?_) ⟨HR.out.1.grown hg HR.out.1.size (fun k hk => (World.ownsRow.lt hE.oC k hk).1), own_defer hE.oC hg HR.out.2.1, fun h => (by cases h), fun _ h => (by cases h), fun _ => ho, fun _ => h3, fun _ => h0, HR.out.2.2.2.2.2.2.2.1, HR.out.2.2.2.2.2.2.2.2⟩
          rcases j with _ | _ | _ | _ | _ | _ | _ | j
          all_goals first | rfl | (rw [hl] at hj; cases hj) | (rw [h5] at hj; cases hj)
        · obtain rfl : _ = o := Option.some.inj ho
          have HR := Lib.hid hR
          clear hR
          go_simp
          exact hK p wx (fun _ _ => rfl) HR.out
        · obtain rfl : _ = o := Option.some.inj ho
          have HR := Lib.hid hR
          clear hR
          go_simp
          exact hK p wx (fun _ _ => rfl) HR.out
        · simp at ho
      · intro p lz wx hl hR
        have HO := Lib.hid (hR.2.2.2.2.1 (hl 4 (by decide)))
        have HB2 := Lib.hid hR.1
        have HK2 := Lib.hid hR.2.1
        clear hR hl
        go_wp2_with fail
        refine ⟨by simp, .inl ⟨_, _, rfl, run_takeDeferred HK2.out, ?_⟩⟩
        refine ⟨_, results_tmp2 rfl _ _ _, p.2, ?_, ?_, ?_⟩
        · rw [show encE l = 0 from if_pos HM.out]; rfl
        · rw [HOut.out]; exact ownsRow_putObj HO.out _ HK2.out rfl
        · exact HB2.out.trans (belowK_b (w := W) (Nat.le_refl _) _ D _ _ HDl.out HK2.out rfl rfl)
  · have HM := Lib.hid hm
    have HMay := Lib.hid (show Calls _ _ _ _ _ from (show mayB l = false from decide_eq_false hm) ▸ HMay.out)
    clear hm
    refine wpIn_wide.2 ?_
    go_wp2_with fail
    refine HMay.out.mono ?_; rintro e w1 ⟨rfl, hb⟩
    go_wp2_with fail
    refine ⟨_, results_tmp2 rfl _ _ _, .slice none 0 0, ?_, ?_, hb⟩
    · rw [show encE l = 1 from if_neg HM.out]; rfl
    · rw [show encX l = [] from if_neg HM.out]; exact OwnN.nil _ _ _ _
end Go.Proofs.Ytpmhkmakkeckkaa
