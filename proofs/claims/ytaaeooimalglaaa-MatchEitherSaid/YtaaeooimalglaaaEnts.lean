/-
  Rows of ints, rows of entries, in memory: read, owned, come in. Over the program's own text.
-/
import Derived.Test.YtaaeooimalglaaaNums
import Derived.Test.YtaaeooimalglaaaBlkPure
import Derived.Deep.Slices
namespace Go.Proofs.Ytaaeooimalglaaa
open Go.ChangeShapes Go.WideShapes Go.ChangeAt Go.RowKit Go.Deep

/-! ### Ints -/
def zC (l : List Int) : List Value := l.map (Value.int .i64)
theorem zC_length (l : List Int) : (zC l).length = l.length := by simp [zC]
theorem zC_get {l : List Int} {j : Nat} {x : Int} (h : l[j]? = some x) : (zC l)[j]? = some (.int .i64 x) := by simp [zC, h]
theorem zC_snoc (l : List Int) (x : Int) : zC (l ++ [x]) = zC l ++ [.int .i64 x] := by simp [zC]
theorem zC_one (l : List Int) : ∀ v ∈ zC l, v.oneCell' = true := by
  intro v hv
  obtain ⟨x, _, rfl⟩ := List.mem_map.1 hv
  rfl
def ReadZ (w : World) (oa : Option Addr) (l : List Int) : Prop := ∀ (j : Nat) (x : Int), l[j]? = some x → ∃ g o : Nat, oa = some ⟨g, o, none⟩ ∧ w.cell? ⟨g, o + j, none⟩ = some (.int .i64 x)
theorem ReadZ.below {w w' : World} {oa : Option Addr} {l : List Int} (h : ReadZ w oa l) (hb : Below w.heap.size w w') : ReadZ w' oa l := by
  intro j x hj
  obtain ⟨g, o, e, hc⟩ := h j x hj
  exact ⟨g, o, e, below_cell hc hb⟩
theorem ReadZ.nil (w : World) (oa : Option Addr) : ReadZ w oa [] := by intro j x hj; simp at hj
theorem ReadZ.cells {w : World} {ad : Addr} {l : List Int} (h : ReadZ w (some ad) l) : ∀ (j : Nat) (u : Value), (zC l)[j]? = some u → w.cell? (ad.add j) = some u := by
  intro j u hj
  unfold zC at hj
  rw [List.getElem?_map] at hj
  obtain ⟨x, hx, rfl⟩ := Option.map_eq_some_iff.1 hj
  obtain ⟨g, o, he, hc⟩ := h j x hx
  injection he with he
  subst he
  rw [Addr.add_lit]
  exact hc
theorem info_z : (Try.prog.info? 3).map (fun i => (i.zero, i.size, i.bytes)) = some (some (.int .i64 0), 1, 8) := by kernel_rfl
def OwnZ (w : World) (base : Nat) (v : Value) (l : List Int) : Prop := w.ownsRow base 3 1 v l.length (zC l)
theorem OwnZ.nil (w : World) (base : Nat) : OwnZ w base (.slice none 0 0) [] := World.ownsRow_nil _ _ _ _
theorem OwnZ.below {w w' : World} {base : Nat} {v : Value} {l : List Int} (h : OwnZ w base v l) (hb : Below w.heap.size w w') : OwnZ w' base v l := owned_below h hb
theorem OwnZ.reads {w : World} {base : Nat} {v : Value} {l : List Int} (h : OwnZ w base v l) : ∃ oa cap, v = .slice oa l.length cap ∧ l.length ≤ cap ∧ cap ≤ maxLen ∧ (oa = none → cap = 0) ∧ ReadZ w oa l := by
  by_cases hn : v = .slice none 0 0
  · subst hn
    rcases h.2 with ⟨_, h0⟩ | ⟨g, cap, cur, e, _⟩
    · have : l = [] := List.eq_nil_of_length_eq_zero h0
      subst this
      exact ⟨none, 0, rfl, by simp, by simp [maxLen], fun _ => rfl, ReadZ.nil _ _⟩
    · cases e
  · obtain ⟨h0, h1 | ⟨g, cap, cur, rfl, h2, h3, h4, h5, h6⟩⟩ := h
    · exact absurd h1.1 hn
    · refine ⟨some ⟨g, 0, none⟩, cap, rfl, h4, h5, (by intro e; cases e), ?_⟩
      intro j x hj
      have := World.ownsRow.cells (w := w) (base := base) (e := 3) (size := 1) (n := l.length) (xs := zC l) (v := .slice (some ⟨g, 0, none⟩) l.length cap) ⟨h0, .inr ⟨g, cap, cur, rfl, h2, h3, h4, h5, h6⟩⟩ (g := g) rfl j _ (zC_get hj)
      rw [Addr.add_lit] at this
      exact ⟨g, 0, rfl, this⟩
theorem OwnZ.more0 {W w1 w2 : World} {v v' : Value} {l m : List Int} {base : Nat} (hb : base ≤ w1.heap.size) (hl : Below base W w1) (hr : OwnZ w1 base v l) (ho : w2.ownsRow base 3 1 v' (l.length + m.length) (zC l ++ zC m)) (hg : w1.grownBy w2 v.ownBlock) :
    OwnZ w2 base v' (l ++ m) ∧ Below base W w2 :=
  ⟨by unfold OwnZ; rw [show zC (l ++ m) = zC l ++ zC m by simp [zC], List.length_append]; exact ho, hl.grown hg hb (fun k hk => (World.ownsRow.lt hr k hk).1)⟩

theorem OwnZ.row {w : World} {base n : Nat} {v : Value} {l : List Int} (h : OwnZ w base v l) (hn : l.length = n) : w.ownsRow base 3 1 v n (zC l) := by subst hn; exact h
theorem OwnZ.more {W w1 w2 : World} {v v' : Value} {l : List Int} {x : Int} {o : Obj} {base n : Nat} (hn : l.length = n) (hb : base ≤ w1.heap.size) (hl : Below base W w1) (hr : OwnZ w1 base v l) (ho : w2.ownsRow base 3 1 v' (n + 1) (zC l ++ [.int .i64 x])) (hg : (w1.alloc o).grownBy w2 v.ownBlock) :
    OwnZ w2 base v' (l ++ [x]) ∧ Below base W w2 := by
  subst hn
  exact ⟨by unfold OwnZ; rw [zC_snoc, List.length_append]; exact ho, (hl.alloc hb _).grown hg (by simp; omega) (fun k hk => (World.ownsRow.lt hr k hk).1)⟩

/-! ### Entries -/
def RdP (w : World) (p : Value) (l : List Int) : Prop := ∃ pa c, p = .slice pa l.length c ∧ l.length ≤ c ∧ c ≤ maxLen ∧ (pa = none → c = 0) ∧ ReadZ w pa l
theorem RdP.below {w w' : World} {p : Value} {l : List Int} (h : RdP w p l) (hb : Below w.heap.size w w') : RdP w' p l := by
  obtain ⟨pa, c, h1, h2, h3, h4, h5⟩ := h
  exact ⟨pa, c, h1, h2, h3, h4, h5.below hb⟩
def ReadE (w : World) (oa : Option Addr) (l : List En) : Prop := ∀ (j : Nat) (e : En), l[j]? = some e → ∃ g o : Nat, oa = some ⟨g, o, none⟩ ∧ w.cell? ⟨g, o + j * 2, none⟩ = some (.int .i64 e.1) ∧ ∃ p, w.cell? ⟨g, o + j * 2 + 1, none⟩ = some p ∧ RdP w p e.2
theorem ReadE.below {w w' : World} {oa : Option Addr} {l : List En} (h : ReadE w oa l) (hb : Below w.heap.size w w') : ReadE w' oa l := by
  intro j e hj
  obtain ⟨g, o, h0, h1, p, h2, h3⟩ := h j e hj
  exact ⟨g, o, h0, below_cell h1 hb, p, below_cell h2 hb, h3.below hb⟩
theorem ReadE.nil (w : World) (oa : Option Addr) : ReadE w oa [] := by intro j x hj; simp at hj
theorem ReadE.cut {w : World} {oa : Option Addr} {l : List En} (h : ReadE w oa l) (n : Nat) : ReadE w oa (l.take n) := by
  intro j e hj
  rw [List.getElem?_take] at hj
  split at hj
  · exact h j e hj
  · cases hj
theorem ReadE.skip {w : World} {g o : Nat} {l : List En} (h : ReadE w (some ⟨g, o, none⟩) l) (n : Nat) : ReadE w (some ⟨g, o + n * 2, none⟩) (l.drop n) := by
  intro j e hj
  rw [List.getElem?_drop] at hj
  obtain ⟨g', o', h0, h1, p, h2, h3⟩ := h _ e hj
  injection h0 with h0
  injection h0 with h01 h02
  subst h01 h02
  exact ⟨g, o + n * 2, rfl, by rw [show o + n * 2 + j * 2 = o + (n + j) * 2 by omega]; exact h1, p, by rw [show o + n * 2 + j * 2 + 1 = o + (n + j) * 2 + 1 by omega]; exact h2, h3⟩
def entC : List En → List Value → List Value
  | e :: l, p :: ps => .int .i64 e.1 :: p :: entC l ps
  | _, _ => []
theorem entC_length : ∀ (l : List En) (ps : List Value), ps.length = l.length → (entC l ps).length = l.length * 2
  | [], [], _ => rfl
  | e :: l, p :: ps, h => by
    simp only [entC, List.length_cons]
    rw [entC_length l ps (by simpa using h)]
    omega
  | [], p :: ps, h => by simp at h
  | e :: l, [], h => by simp at h
theorem entC_snoc : ∀ (l : List En) (ps : List Value) (e : En) (p : Value), ps.length = l.length → entC (l ++ [e]) (ps ++ [p]) = entC l ps ++ [.int .i64 e.1, p]
  | [], [], e, p, _ => rfl
  | x :: l, q :: ps, e, p, h => by
    simp only [List.cons_append, entC]
    rw [entC_snoc l ps e p (by simpa using h)]
  | [], q :: ps, e, p, h => by simp at h
  | x :: l, [], e, p, h => by simp at h
theorem entC_get : ∀ (l : List En) (ps : List Value) (j : Nat) (e : En) (p : Value), l[j]? = some e → ps[j]? = some p → (entC l ps)[j * 2]? = some (.int .i64 e.1) ∧ (entC l ps)[j * 2 + 1]? = some p
  | [], _, j, e, p, h, _ => by simp at h
  | _ :: _, [], j, e, p, _, h => by simp at h
  | x :: l, q :: ps, 0, e, p, h, h2 => by
    simp at h h2
    subst h h2
    exact ⟨rfl, rfl⟩
  | x :: l, q :: ps, j + 1, e, p, h, h2 => by
    have := entC_get l ps j e p (by simpa using h) (by simpa using h2)
    rw [show (j + 1) * 2 = j * 2 + 2 by omega]
    simp only [entC, List.getElem?_cons_succ]
    exact this
def OwnE (w : World) (base : Nat) (v : Value) (l : List En) : Prop := ∃ ps : List Value, ps.length = l.length ∧ w.ownsRow base 46 2 v l.length (entC l ps) ∧ ∀ (j : Nat) (e : En), l[j]? = some e → ∃ u, ps[j]? = some u ∧ OwnZ w base u e.2
theorem OwnE.nil (w : World) (base : Nat) : OwnE w base (.slice none 0 0) [] := ⟨[], rfl, World.ownsRow_nil _ _ _ _, by simp⟩
theorem OwnE.below {w w' : World} {base : Nat} {v : Value} {l : List En} (h : OwnE w base v l) (hb : Below w.heap.size w w') : OwnE w' base v l := by
  obtain ⟨ps, h1, h2, h3⟩ := h
  refine ⟨ps, h1, owned_below h2 hb, fun j e hj => ?_⟩
  obtain ⟨u, h4, h5⟩ := h3 j e hj
  exact ⟨u, h4, h5.below hb⟩
theorem OwnE.reads {w : World} {base : Nat} {v : Value} {l : List En} (h : OwnE w base v l) : ∃ oa cap, v = .slice oa l.length cap ∧ l.length ≤ cap ∧ cap ≤ maxLen ∧ (oa = none → cap = 0) ∧ ReadE w oa l := by
  obtain ⟨ps, h1, h2, h3⟩ := h
  rcases h2.2 with ⟨rfl, h0⟩ | ⟨g, cap, cur, rfl, hb, hg, hn, hm, hs, ht⟩
  · have : l = [] := List.eq_nil_of_length_eq_zero h0
    subst this
    exact ⟨none, 0, rfl, by simp, by simp [maxLen], fun _ => rfl, ReadE.nil _ _⟩
  · refine ⟨_, cap, rfl, hn, hm, (by intro e; cases e), fun j e hj => ?_⟩
    obtain ⟨u, hu, ho⟩ := h3 j e hj
    have hgt := entC_get l ps j e u hj hu
    have hc := World.ownsRow.cells h2 (g := g) rfl
    simp only [Addr.add_lit] at hc
    obtain ⟨pa, c, rfl, h4, h5, h6, h7⟩ := ho.reads
    exact ⟨g, 0, rfl, hc _ _ hgt.1, _, by simpa [Nat.add_assoc] using hc _ _ hgt.2, pa, c, rfl, h4, h5, h6, h7⟩
theorem row_grown {e t : TypeId} {w w' : World} {base size n b2 sz m : Nat} {v u : Value} {xs ys : List Value} (h : w.ownsRow base e size v n xs) (hg : w.grownBy w' v.ownBlock) (hu : w.ownsRow b2 t sz u m ys) (ht : t ≠ e) : w'.ownsRow b2 t sz u m ys := by
  refine hu.kept hg ?_
  rcases hu.2 with ⟨rfl, _⟩ | ⟨g2, cap2, cur2, rfl, _, hgb2, _⟩
  · exact .inl rfl
  · refine .inr fun e' => ?_
    rcases h.2 with ⟨rfl, _⟩ | ⟨g, cap, cur, rfl, _, hgb, _⟩
    · simp [Value.ownBlock] at e'
    · obtain rfl : g2 = g := by simpa [Value.ownBlock] using e'
      have := hgb2.symm.trans hgb
      simp at this
      exact ht this.2
theorem OwnE.push {W w w8 : World} {base : Nat} {v v' u : Value} {ps : List Value} {l : List En} {e : En} (hbs : base ≤ w.heap.size) (hl : Below base W w) (h0 : ps.length = l.length) (h1 : w.ownsRow base 46 2 v l.length (entC l ps)) (h2 : ∀ (j : Nat) (e : En), l[j]? = some e → ∃ u, ps[j]? = some u ∧ OwnZ w base u e.2)
    (hu : OwnZ w base u e.2) (ho : w8.ownsRow base 46 2 v' (l.length + 1) (entC l ps ++ [.int .i64 e.1, u])) (hg : w.grownBy w8 v.ownBlock) : OwnE w8 base v' (l ++ [e]) ∧ Below base W w8 := by
  refine ⟨⟨ps ++ [u], by simp [h0], ?_, fun j x hj => ?_⟩, hl.grown hg hbs (fun k hk => (World.ownsRow.lt h1 k hk).1)⟩
  · rw [entC_snoc l ps e u h0, List.length_append]
    exact ho
  · by_cases hj2 : j < l.length
    · rw [List.getElem?_append_left hj2] at hj
      obtain ⟨q, hq, hq2⟩ := h2 j x hj
      exact ⟨q, by rw [List.getElem?_append_left (by omega)]; exact hq, row_grown h1 hg hq2 (by decide)⟩
    · have hjl : j = l.length := by
        have := (List.getElem?_eq_some_iff.1 hj).1
        simp at this
        omega
      subst hjl
      simp at hj
      subst hj
      exact ⟨u, by rw [← h0]; simp, row_grown h1 hg hu (by decide)⟩

/-! ### A list that comes in -/
theorem cells_ent : Try.prog.cellsOf 46 = 2 := by kernel_rfl
theorem wf_i64 {x : Int} (h : (Lit.int .i64 x).wf = true) : -9223372036854775808 ≤ x ∧ x ≤ 9223372036854775807 := bounds_i64 h
def In64 (x : Int) : Prop := -9223372036854775808 ≤ x ∧ x ≤ 9223372036854775807
theorem trod_places {H : Type} {enc : TypeId × Value → H} {W : World} {fuel : Nat} {c : Value} {x : DataW H × List MemPlace} (hf : DataW.trod enc Try.prog W 0 (fun _ => true) true fuel 32 [c] = some x) :
    ∃ l : List Int, RdP W c l ∧ ∀ x ∈ l, In64 x := by
  rcases open_ints Try.underlying32 Try.underlying3 (by kernel_rfl) hf with ⟨hcs, _⟩ | ⟨a', len', cap', zs, hcs, _, hl, hm, hz, _, hcell, hwf⟩
  · simp only [List.cons.injEq, and_true] at hcs
    subst hcs
    exact ⟨[], ⟨none, 0, rfl, by simp, by simp [maxLen], fun _ => rfl, ReadZ.nil _ _⟩, by simp⟩
  · simp only [List.cons.injEq, and_true] at hcs
    subst hcs
    simp only [if_true] at hz
    have hlen : (zs.take len').length = len' := by simp; omega
    refine ⟨zs.take len', ⟨some a', cap', by rw [hlen], by omega, hm, (by intro e; cases e), fun j x hj => ?_⟩, fun x hx => wf_i64 (hwf x (List.mem_of_mem_take hx))⟩
    have hjl : j < len' := by have := (List.getElem?_eq_some_iff.1 hj).1; omega
    have h1 := hcell j (by omega)
    have hz2 := hj
    rw [List.getElem?_take, if_pos hjl] at hz2
    have hg : zs.getD j 0 = x := by simp [hz2]
    rw [hg] at h1
    obtain ⟨g, o, ha⟩ : ∃ g o, a' = ⟨g, o, none⟩ := by
      have h0 := hcell 0 (by omega)
      rw [show a'.add 0 = a' by simp [Addr.add]] at h0
      exact cell_plain h0
    subst ha
    refine ⟨g, o, rfl, ?_⟩
    rw [Addr.add_lit] at h1
    exact h1
theorem open_ents {H : Type} {enc : TypeId × Value → H} {W : World} {v : Value} {d : DataW H} {p : List MemPlace} {base : Nat}
    (hv : Value.okWide Try.prog W .any base 42 v) (h : DataW.Trod enc Try.prog W 0 (fun _ => true) true 42 v d p) :
    ∃ ao l cap, v = .slice ao (List.length l) cap ∧ ReadE W ao l ∧ l.length ≤ cap ∧ cap ≤ maxLen ∧ (ao = none → cap = 0) ∧ ∀ e ∈ l, In64 e.1 ∧ ∀ x ∈ e.2, In64 x := by
  obtain ⟨a, len, cap, rfl⟩ := okWide_slice Try.underlying42 hv
  obtain ⟨fuel, hf⟩ := h
  rcases open_slice Try.underlying42 hf with ⟨hcs, _⟩ | ⟨a', len', cap', m, n, D, Pl, hcs, _, hl, hm, hmm, _, hi⟩
  · simp only [Value.cells, List.cons.injEq, and_true, Value.slice.injEq] at hcs
    obtain ⟨rfl, rfl, rfl⟩ := hcs
    exact ⟨none, [], 0, rfl, ReadE.nil _ _, by simp, by simp [maxLen], fun _ => rfl, by simp⟩
  · simp only [Value.cells, List.cons.injEq, and_true, Value.slice.injEq] at hcs
    obtain ⟨rfl, rfl, rfl⟩ := hcs
    simp only [if_true] at hmm
    subst hmm
    rw [cells_ent] at hi
    obtain ⟨E, hE⟩ := choose_lt (α := En) (n := len) (p := fun i x => ∃ b off, (some a' : Option Addr) = some ⟨b, off, none⟩ ∧ W.cell? ⟨b, off + i * 2, none⟩ = some (.int .i64 x.1) ∧
      (∃ q, W.cell? ⟨b, off + i * 2 + 1, none⟩ = some q ∧ RdP W q x.2) ∧ In64 x.1 ∧ ∀ y ∈ x.2, In64 y) (fun i him => by
        obtain ⟨cs, hc, ht⟩ := hi i (by omega)
        obtain ⟨ys, n', _, _, hlen, hyl, hg⟩ := DataW.trod_struct Try.underlying46 ht
        obtain ⟨_, hcl, hat⟩ := World.cells?_some hc
        match cs, hcl with
        | [c0, c1], _ =>
          have g0 := hg 0 _ rfl
          have g1 := hg 1 _ rfl
          match ys, hyl with
          | [y0, y1], _ =>
            obtain ⟨x0, e0, _, wf0⟩ := DataW.trod_int Try.underlying3 (show DataW.trod enc Try.prog W 0 (fun _ => true) true n' 3 [c0] = some y0 from g0)
            obtain ⟨x1, hx1, hx2⟩ := trod_places (show DataW.trod enc Try.prog W 0 (fun _ => true) true n' 32 [c1] = some y1 from g1)
            simp only [List.cons.injEq, and_true] at e0
            subst e0
            have k0 := hat 0 (by omega)
            have k1 := hat 1 (by omega)
            simp only [List.getElem?_cons_zero, List.getElem?_cons_succ] at k0 k1
            obtain ⟨b, off, sp⟩ := a'
            have hs1 : sp = none := by
              obtain ⟨cs0, hc0, _⟩ := hi 0 (by omega)
              obtain ⟨_, hl0, hat0⟩ := World.cells?_some hc0
              have h00 := hat0 0 (by omega)
              rw [Nat.zero_mul, Addr.add_zero', Addr.add_zero', List.getElem?_eq_getElem (by omega)] at h00
              exact plain_of_cell h00
            subst hs1
            simp only [Addr.add_lit] at k0 k1
            exact ⟨(x0, x1), b, off, rfl, by simpa using k0, ⟨_, k1, hx1⟩, wf_i64 wf0, hx2⟩)
    have hlen : ((List.range len).map E).length = len := by simp
    refine ⟨some a', (List.range len).map E, _, by rw [hlen], fun j e hj => ?_, by omega, by omega, (by intro e; cases e), fun e he => ?_⟩
    · rw [List.getElem?_map] at hj
      obtain ⟨i, hi1, rfl⟩ := Option.map_eq_some_iff.1 hj
      obtain ⟨hi2, hi3⟩ := List.getElem?_eq_some_iff.1 hi1
      rw [List.getElem_range] at hi3
      subst hi3
      obtain ⟨b, off, h1, h2, h3, _⟩ := hE j (by simpa using hi2)
      exact ⟨b, off, h1, h2, h3⟩
    · obtain ⟨i, hi1, rfl⟩ := List.mem_map.1 he
      obtain ⟨_, _, _, _, _, h4⟩ := hE i (List.mem_range.1 hi1)
      exact h4
end Go.Proofs.Ytaaeooimalglaaa
