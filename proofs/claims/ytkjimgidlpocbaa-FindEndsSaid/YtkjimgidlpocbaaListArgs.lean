/-
  Rows of lists, and a segment's rows, that come in: no part of them is greater than a machine has room for. Over the program's own text.
-/
import Derived.Test.YtkjimgidlpocbaaLists
import Derived.Test.YtkjimgidlpocbaaEntArgs
namespace Go.Proofs.Ytkjimgidlpocbaa
open Go.ChangeShapes Go.WideShapes Go.ChangeAt Go.RowKit Go.Deep

def EnIn (l : List En) : Prop := ∀ e ∈ l, (In64 e.1 ∧ ∀ x ∈ e.2, In64 x) ∧ e.2.length ≤ reachBytes
theorem trod_ents_r {H : Type} {enc : TypeId × Value → H} {W : World} {fuel : Nat} {c : Value} {x : DataW H × List MemPlace} (hf : DataW.trod enc Try.prog W 0 (fun _ => true) true fuel 32 [c] = some x) (hs : ∀ n ∈ x.1.weights Try.prog 32, n ≤ reachBytes) :
    ∃ l : List En, RdE W c l ∧ EnIn l := by
  rcases open_slice Try.underlying32 hf with ⟨hcs, _⟩ | ⟨a', len, cap, m, n, D, Pl, hcs, _, hl, hm, hmm, hdd, hi⟩
  · simp only [List.cons.injEq, and_true] at hcs
    subst hcs
    exact ⟨[], ⟨none, 0, rfl, by simp, by simp [maxLen], fun _ => rfl, ReadE.nil _ _⟩, by simp [EnIn]⟩
  · simp only [List.cons.injEq, and_true] at hcs
    subst hcs
    simp only [if_true] at hmm
    subst hmm
    rw [cells_ent] at hi
    have hus : Try.prog.underlying 32 = some (.slice 51) := Try.underlying32
    have hue := Try.underlying51
    obtain ⟨E, hE⟩ := choose_lt (α := En) (n := len) (p := fun i x => ∃ b off, (some a' : Option Addr) = some ⟨b, off, none⟩ ∧ W.cell? ⟨b, off + i * 2, none⟩ = some (.int .i64 x.1) ∧
      (∃ q, W.cell? ⟨b, off + i * 2 + 1, none⟩ = some q ∧ RdP W q x.2) ∧ (In64 x.1 ∧ ∀ y ∈ x.2, In64 y) ∧ x.2.length ≤ reachBytes) (fun i him => by
        obtain ⟨cs, hc, ht⟩ := hi i (by omega)
        obtain ⟨ys, n', _, hDi, hlen, hyl, hg⟩ := DataW.trod_struct Try.underlying51 ht
        obtain ⟨_, hcl, hat⟩ := World.cells?_some hc
        match cs, hcl with
        | [c0, c1], _ =>
          have g0 := hg 0 _ rfl
          have g1 := hg 1 _ rfl
          match ys, hyl with
          | [y0, y1], _ =>
            obtain ⟨x0, e0, _, wf0⟩ := DataW.trod_int Try.underlying3 (show DataW.trod enc Try.prog W 0 (fun _ => true) true n' 3 [c0] = some y0 from g0)
            obtain ⟨x1, hx1, hx2, hx3⟩ := trod_places_r (show DataW.trod enc Try.prog W 0 (fun _ => true) true n' 35 [c1] = some y1 from g1) (fun k hk => hs k (by
              rw [show x.1 = _ from congrArg Prod.fst hdd]
              unfold DataW.weights
              rw [hus]
              refine List.mem_cons_of_mem _ (List.mem_append_left _ (mem_weightsAll (i := i) (d := D i) (by rw [List.getElem?_map, List.getElem?_range him]; rfl) _ ?_))
              rw [show D i = _ from congrArg Prod.fst hDi]
              unfold DataW.weights
              rw [hue]
              exact DataW.weights_mem_each (j := 1) rfl rfl k hk))
            simp only [List.cons.injEq, and_true] at e0
            subst e0
            have k0 := hat 0 (by omega)
            have k1 := hat 1 (by omega)
            simp only [List.getElem?_cons_zero, List.getElem?_cons_succ] at k0 k1
            obtain ⟨b, off, sp⟩ := a'
            have hs1 : sp = none := by
              obtain ⟨cs0, hc0, _⟩ := hi 0 (by omega)
              obtain ⟨_, hl0, hat0⟩ := World.cells?_some hc0
              have h00 := hat0 0 (by omega)
              rw [Nat.zero_mul, Addr.add_zero', Addr.add_zero', List.getElem?_eq_getElem (by omega)] at h00
              exact plain_of_cell h00
            subst hs1
            simp only [Addr.add_lit] at k0 k1
            exact ⟨(x0, x1), b, off, rfl, by simpa using k0, ⟨_, k1, hx1⟩, ⟨wf_i64 wf0, hx2⟩, hx3⟩)
    have hlen : ((List.range len).map E).length = len := by simp
    refine ⟨(List.range len).map E, ⟨some a', _, by rw [hlen], by omega, by omega, (by intro e; cases e), fun j e hj => ?_⟩, fun e he => ?_⟩
    · rw [List.getElem?_map] at hj
      obtain ⟨i, hi1, rfl⟩ := Option.map_eq_some_iff.1 hj
      obtain ⟨hi2, hi3⟩ := List.getElem?_eq_some_iff.1 hi1
      rw [List.getElem_range] at hi3
      subst hi3
      obtain ⟨b, off, h1, h2, h3, _⟩ := hE j (by simpa using hi2)
      exact ⟨b, off, h1, h2, h3⟩
    · obtain ⟨i, hi1, rfl⟩ := List.mem_map.1 he
      obtain ⟨_, _, _, _, _, h4⟩ := hE i (List.mem_range.1 hi1)
      exact h4
def LiIn (l : Li) : Prop := In64 l.record ∧ l.key.size ≤ reachBytes ∧ EnIn l.ents
theorem open_lists_r {H : Type} {enc : TypeId × Value → H} {W : World} {v : Value} {d : DataW H} {p : List MemPlace} {base : Nat}
    (hs : ∀ n ∈ d.weights Try.prog 23, n ≤ reachBytes) (hv : Value.okWide Try.prog W .any base 23 v) (h : DataW.Trod enc Try.prog W 0 (fun _ => true) true 23 v d p) :
    ∃ ao L cap, v = .slice ao (List.length L) cap ∧ ReadLi W ao L ∧ L.length ≤ cap ∧ cap ≤ maxLen ∧ (ao = none → cap = 0) ∧ ∀ l ∈ L, LiIn l := by
  obtain ⟨a, len, cap, rfl⟩ := okWide_slice Try.underlying23 hv
  obtain ⟨fuel, hf⟩ := h
  rcases open_slice Try.underlying23 hf with ⟨hcs, _⟩ | ⟨a', len', cap', m, n, D, Pl, hcs, _, hl, hm, hmm, hdd, hi⟩
  · simp only [Value.cells, List.cons.injEq, and_true, Value.slice.injEq] at hcs
    obtain ⟨rfl, rfl, rfl⟩ := hcs
    exact ⟨none, [], 0, rfl, ReadLi.nil _ _, by simp, by simp [maxLen], fun _ => rfl, by simp⟩
  · simp only [Value.cells, List.cons.injEq, and_true, Value.slice.injEq] at hcs
    obtain ⟨rfl, rfl, rfl⟩ := hcs
    simp only [if_true] at hmm
    subst hmm
    rw [cells_list] at hi
    have hus : Try.prog.underlying 23 = some (.slice 34) := Try.underlying23
    have hue := Try.underlying34
    obtain ⟨E, hE⟩ := choose_lt (α := Li) (n := len) (p := fun i x => ∃ b off, (some a' : Option Addr) = some ⟨b, off, none⟩ ∧ W.cell? ⟨b, off + i * 3, none⟩ = some (.string x.key) ∧ W.cell? ⟨b, off + i * 3 + 1, none⟩ = some (.int .i64 x.record) ∧
      (∃ q, W.cell? ⟨b, off + i * 3 + 2, none⟩ = some q ∧ RdE W q x.ents) ∧ LiIn x) (fun i him => by
        obtain ⟨cs, hc, ht⟩ := hi i (by omega)
        obtain ⟨ys, n', _, hDi, hlen, hyl, hg⟩ := DataW.trod_struct Try.underlying34 ht
        obtain ⟨_, hcl, hat⟩ := World.cells?_some hc
        match cs, hcl with
        | [c0, c1, c2], _ =>
          have g0 := hg 0 _ rfl
          have g1 := hg 1 _ rfl
          have g2 := hg 2 _ rfl
          match ys, hyl with
          | [y0, y1, y2], _ =>
            have hw : ∀ (j : Nat) (t : TypeId) (y : DataW H × List MemPlace), ([9, 3, 32] : List TypeId)[j]? = some t → [y0, y1, y2][j]? = some y → ∀ k ∈ y.1.weights Try.prog t, k ≤ reachBytes := by
              intro j t y ht hy k hk
              refine hs k ?_
              rw [show d = _ from congrArg Prod.fst hdd]
              unfold DataW.weights
              rw [hus]
              refine List.mem_cons_of_mem _ (List.mem_append_left _ (mem_weightsAll (i := i) (d := D i) (by rw [List.getElem?_map, List.getElem?_range him]; rfl) _ ?_))
              rw [show D i = _ from congrArg Prod.fst hDi]
              unfold DataW.weights
              rw [hue]
              refine DataW.weights_mem_each (j := j) ht ?_ k hk
              match j, hy with
              | 0, hy => cases hy; rfl
              | 1, hy => cases hy; rfl
              | 2, hy => cases hy; rfl
              | j + 3, hy => simp at hy
            obtain ⟨s, e0, he0, _⟩ := DataW.trod_string Try.underlying9 (show DataW.trod enc Try.prog W 0 (fun _ => true) true n' 9 [c0] = some y0 from g0)
            obtain ⟨x1, e1, _, wf1⟩ := DataW.trod_int Try.underlying3 (show DataW.trod enc Try.prog W 0 (fun _ => true) true n' 3 [c1] = some y1 from g1)
            obtain ⟨x2, hx2, hx3⟩ := trod_ents_r (show DataW.trod enc Try.prog W 0 (fun _ => true) true n' 32 [c2] = some y2 from g2) (hw 2 _ y2 rfl rfl)
            have hss : s.size ≤ reachBytes := hw 0 _ y0 rfl rfl s.size (by rw [he0]; simp [DataW.weights])
            simp only [List.cons.injEq, and_true] at e0 e1
            subst e0 e1
            have k0 := hat 0 (by omega)
            have k1 := hat 1 (by omega)
            have k2 := hat 2 (by omega)
            simp only [List.getElem?_cons_zero, List.getElem?_cons_succ] at k0 k1 k2
            obtain ⟨b, off, sp⟩ := a'
            have hs1 : sp = none := by
              obtain ⟨cs0, hc0, _⟩ := hi 0 (by omega)
              obtain ⟨_, hl0, hat0⟩ := World.cells?_some hc0
              have h00 := hat0 0 (by omega)
              rw [Nat.zero_mul, Addr.add_zero', Addr.add_zero', List.getElem?_eq_getElem (by omega)] at h00
              exact plain_of_cell h00
            subst hs1
            simp only [Addr.add_lit] at k0 k1 k2
            exact ⟨⟨s, x1, x2⟩, b, off, rfl, by simpa using k0, k1, ⟨_, k2, hx2⟩, wf_i64 wf1, hss, hx3⟩)
    have hlen : ((List.range len).map E).length = len := by simp
    refine ⟨some a', (List.range len).map E, _, by rw [hlen], fun j e hj => ?_, by omega, by omega, (by intro e; cases e), fun e he => ?_⟩
    · rw [List.getElem?_map] at hj
      obtain ⟨i, hi1, rfl⟩ := Option.map_eq_some_iff.1 hj
      obtain ⟨hi2, hi3⟩ := List.getElem?_eq_some_iff.1 hi1
      rw [List.getElem_range] at hi3
      subst hi3
      obtain ⟨b, off, h1, h2, h3, h4, _⟩ := hE j (by simpa using hi2)
      exact ⟨b, off, h1, h2, h3, h4⟩
    · obtain ⟨i, hi1, rfl⟩ := List.mem_map.1 he
      obtain ⟨_, _, _, _, _, _, h4⟩ := hE i (List.mem_range.1 hi1)
      exact h4
theorem wf_u32 {x : Int} (h : (Lit.int .u32 x).wf = true) : 0 ≤ x ∧ x < 4294967296 := by
  simp [Lit.wf, IntKind.min, IntKind.max, IntKind.bits, IntKind.signed] at h
  omega
theorem open_rows {H : Type} {enc : TypeId × Value → H} {W : World} {v : Value} {d : DataW H} {p : List MemPlace} {base : Nat}
    (hv : Value.okWide Try.prog W .any base 22 v) (h : DataW.Trod enc Try.prog W 0 (fun _ => true) true 22 v d p) :
    ∃ ao N F cap, v = .slice ao N cap ∧ List.length F = 4 * N ∧ ReadN .u32 W ao F ∧ N ≤ cap ∧ cap ≤ maxLen ∧ (ao = none → cap = 0) ∧ ∀ x ∈ F, x < 4294967296 := by
  obtain ⟨a, len, cap, rfl⟩ := okWide_slice Try.underlying22 hv
  obtain ⟨fuel, hf⟩ := h
  rcases open_slice Try.underlying22 hf with ⟨hcs, _⟩ | ⟨a', len', cap', m, n, D, Pl, hcs, _, hl, hm, hmm, hdd, hi⟩
  · simp only [Value.cells, List.cons.injEq, and_true, Value.slice.injEq] at hcs
    obtain ⟨rfl, rfl, rfl⟩ := hcs
    exact ⟨none, 0, [], 0, rfl, rfl, ReadN.nil _ _ _, by simp, by simp [maxLen], fun _ => rfl, by simp⟩
  · simp only [Value.cells, List.cons.injEq, and_true, Value.slice.injEq] at hcs
    obtain ⟨rfl, rfl, rfl⟩ := hcs
    simp only [if_true] at hmm
    subst hmm
    rw [cells_row] at hi
    obtain ⟨E, hE⟩ := choose_lt (α := List Nat) (n := len) (p := fun i x => x.length = 4 ∧ (∀ y ∈ x, y < 4294967296) ∧ ∃ b off, (some a' : Option Addr) = some ⟨b, off, none⟩ ∧ ∀ k y : Nat, x[k]? = some y → W.cell? ⟨b, off + (i * 4 + k), none⟩ = some (.int .u32 (y : Int))) (fun i him => by
        obtain ⟨cs, hc, ht⟩ := hi i (by omega)
        obtain ⟨ys, n', _, hDi, hlen, hyl, hg⟩ := DataW.trod_struct Try.underlying54 ht
        obtain ⟨_, hcl, hat⟩ := World.cells?_some hc
        match cs, hcl with
        | [c0, c1, c2, c3], _ =>
          have g0 := hg 0 _ rfl
          have g1 := hg 1 _ rfl
          have g2 := hg 2 _ rfl
          have g3 := hg 3 _ rfl
          match ys, hyl with
          | [y0, y1, y2, y3], _ =>
            obtain ⟨x0, e0, _, wf0⟩ := DataW.trod_int Try.underlying52 (show DataW.trod enc Try.prog W 0 (fun _ => true) true n' 52 [c0] = some y0 from g0)
            obtain ⟨x1, e1, _, wf1⟩ := DataW.trod_int Try.underlying52 (show DataW.trod enc Try.prog W 0 (fun _ => true) true n' 52 [c1] = some y1 from g1)
            obtain ⟨x2, e2, _, wf2⟩ := DataW.trod_int Try.underlying52 (show DataW.trod enc Try.prog W 0 (fun _ => true) true n' 52 [c2] = some y2 from g2)
            obtain ⟨x3, e3, _, wf3⟩ := DataW.trod_int Try.underlying52 (show DataW.trod enc Try.prog W 0 (fun _ => true) true n' 52 [c3] = some y3 from g3)
            have wf0 := wf_u32 wf0
            have wf1 := wf_u32 wf1
            have wf2 := wf_u32 wf2
            have wf3 := wf_u32 wf3
            simp only [List.cons.injEq, and_true] at e0 e1 e2 e3
            subst e0 e1 e2 e3
            have k0 := hat 0 (by omega)
            have k1 := hat 1 (by omega)
            have k2 := hat 2 (by omega)
            have k3 := hat 3 (by omega)
            simp only [List.getElem?_cons_zero, List.getElem?_cons_succ] at k0 k1 k2 k3
            obtain ⟨b, off, sp⟩ := a'
            have hs1 : sp = none := by
              obtain ⟨cs0, hc0, _⟩ := hi 0 (by omega)
              obtain ⟨_, hl0, hat0⟩ := World.cells?_some hc0
              have h00 := hat0 0 (by omega)
              rw [Nat.zero_mul, Addr.add_zero', Addr.add_zero', List.getElem?_eq_getElem (by omega)] at h00
              exact plain_of_cell h00
            subst hs1
            simp only [Addr.add_lit] at k0 k1 k2 k3
            refine ⟨[x0.toNat, x1.toNat, x2.toNat, x3.toNat], rfl, ?_, b, off, rfl, ?_⟩
            · intro y hy
              simp only [List.mem_cons, List.not_mem_nil, or_false] at hy
              rcases hy with rfl | rfl | rfl | rfl <;> omega
            · intro k y hk
              match k, hk with
              | 0, hk => cases hk; rw [Int.toNat_of_nonneg wf0.1]; simpa using k0
              | 1, hk => cases hk; rw [Int.toNat_of_nonneg wf1.1]; simpa [Nat.add_assoc] using k1
              | 2, hk => cases hk; rw [Int.toNat_of_nonneg wf2.1]; simpa [Nat.add_assoc] using k2
              | 3, hk => cases hk; rw [Int.toNat_of_nonneg wf3.1]; simpa [Nat.add_assoc] using k3
              | k + 4, hk => simp at hk)
    have hlen : ∀ n, n ≤ len → ((List.range n).flatMap E).length = 4 * n := by
      intro n
      induction n with
      | zero => simp
      | succ n ih =>
        intro hn
        rw [List.range_succ, List.flatMap_append, List.length_append, ih (by omega)]
        have := (hE n (by omega)).1
        simp [this]
        omega
    have hget : ∀ n, n ≤ len → ∀ j y : Nat, ((List.range n).flatMap E)[j]? = some y → y < 4294967296 ∧ ∃ b off, (some a' : Option Addr) = some ⟨b, off, none⟩ ∧ W.cell? ⟨b, off + j, none⟩ = some (.int .u32 (y : Int)) := by
      intro n
      induction n with
      | zero => intro _ j y hj; simp at hj
      | succ n ih =>
        intro hn j y hj
        rw [List.range_succ, List.flatMap_append] at hj
        by_cases hjn : j < 4 * n
        · rw [List.getElem?_append_left (by rw [hlen n (by omega)]; exact hjn)] at hj
          exact ih (by omega) j y hj
        · rw [List.getElem?_append_right (by rw [hlen n (by omega)]; omega), hlen n (by omega)] at hj
          simp only [List.flatMap_cons, List.flatMap_nil, List.append_nil] at hj
          obtain ⟨_, h2, b, off, h3, h4⟩ := hE n (by omega)
          refine ⟨h2 y (List.mem_of_getElem? hj), b, off, h3, ?_⟩
          have := h4 _ y hj
          rwa [show n * 4 + (j - 4 * n) = j by omega] at this
    refine ⟨some a', len, (List.range len).flatMap E, _, rfl, hlen len (Nat.le_refl _), fun j y hj => ?_, by omega, by omega, (by intro e; cases e), fun y hy => ?_⟩
    · obtain ⟨_, b, off, h1, h2⟩ := hget len (Nat.le_refl _) j y hj
      exact ⟨b, off, h1, h2⟩
    · obtain ⟨j, hj⟩ := List.getElem?_of_mem hy
      exact (hget len (Nat.le_refl _) j y hj).1
end Go.Proofs.Ytkjimgidlpocbaa
