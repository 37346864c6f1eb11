/-
  Rows of entries that come in: no row in them is greater than a machine has room for. Over the program's own text.
-/
import Derived.Test.YtaaeooimalglaaaWeigh
import Derived.Test.YtaaeooimalglaaaEnts
import Derived.Test.YtaaeooimalglaaaFrame
namespace Go.Proofs.Ytaaeooimalglaaa
open Go.ChangeShapes Go.WideShapes Go.ChangeAt Go.RowKit Go.Deep

theorem trod_places_r {H : Type} {enc : TypeId × Value → H} {W : World} {fuel : Nat} {c : Value} {x : DataW H × List MemPlace} (hf : DataW.trod enc Try.prog W 0 (fun _ => true) true fuel 32 [c] = some x) (hs : ∀ n ∈ x.1.weights Try.prog 32, n ≤ reachBytes) :
    ∃ l : List Int, RdP W c l ∧ (∀ x ∈ l, In64 x) ∧ l.length ≤ reachBytes := by
  rcases open_ints Try.underlying32 Try.underlying3 (by kernel_rfl) hf with ⟨hcs, _⟩ | ⟨a', len', cap', zs, hcs, _, hl, hm, hz, hxx, hcell, hwf⟩
  · simp only [List.cons.injEq, and_true] at hcs
    subst hcs
    exact ⟨[], ⟨none, 0, rfl, by simp, by simp [maxLen], fun _ => rfl, ReadZ.nil _ _⟩, by simp, by simp⟩
  · simp only [List.cons.injEq, and_true] at hcs
    subst hcs
    simp only [if_true] at hz
    have hlen : (zs.take len').length = len' := by simp; omega
    refine ⟨zs.take len', ⟨some a', cap', by rw [hlen], by omega, hm, (by intro e; cases e), fun j x hj => ?_⟩, fun x hx => wf_i64 (hwf x (List.mem_of_mem_take hx)), ?_⟩
    · have hjl : j < len' := by have := (List.getElem?_eq_some_iff.1 hj).1; omega
      have h1 := hcell j (by omega)
      have hz2 := hj
      rw [List.getElem?_take, if_pos hjl] at hz2
      have hg : zs.getD j 0 = x := by simp [hz2]
      rw [hg] at h1
      obtain ⟨g, o, ha⟩ : ∃ g o, a' = ⟨g, o, none⟩ := by
        have h0 := hcell 0 (by omega)
        rw [show a'.add 0 = a' by simp [Addr.add]] at h0
        exact cell_plain h0
      subst ha
      refine ⟨g, o, rfl, ?_⟩
      rw [Addr.add_lit] at h1
      exact h1
    · have hu : Try.prog.underlying 32 = some (.slice 3) := Try.underlying32
      have h8 : Try.prog.bytesOf 3 = 8 := by kernel_rfl
      have := hs (zs.length * 8) (by
        rw [hxx]
        unfold DataW.weights
        rw [hu]
        refine List.mem_cons.2 (.inl ?_)
        rw [h8]
        simp [lits]
        omega)
      omega
theorem open_ents_r {H : Type} {enc : TypeId × Value → H} {W : World} {v : Value} {d : DataW H} {p : List MemPlace} {base : Nat}
    (hs : ∀ n ∈ d.weights Try.prog 42, n ≤ reachBytes) (hv : Value.okWide Try.prog W .any base 42 v) (h : DataW.Trod enc Try.prog W 0 (fun _ => true) true 42 v d p) :
    ∃ ao l cap, v = .slice ao (List.length l) cap ∧ ReadE W ao l ∧ l.length ≤ cap ∧ cap ≤ maxLen ∧ (ao = none → cap = 0) ∧ ∀ e ∈ l, (In64 e.1 ∧ ∀ x ∈ e.2, In64 x) ∧ e.2.length ≤ reachBytes := by
  obtain ⟨a, len, cap, rfl⟩ := okWide_slice Try.underlying42 hv
  obtain ⟨fuel, hf⟩ := h
  rcases open_slice Try.underlying42 hf with ⟨hcs, _⟩ | ⟨a', len', cap', m, n, D, Pl, hcs, _, hl, hm, hmm, hdd, hi⟩
  · simp only [Value.cells, List.cons.injEq, and_true, Value.slice.injEq] at hcs
    obtain ⟨rfl, rfl, rfl⟩ := hcs
    exact ⟨none, [], 0, rfl, ReadE.nil _ _, by simp, by simp [maxLen], fun _ => rfl, by simp⟩
  · simp only [Value.cells, List.cons.injEq, and_true, Value.slice.injEq] at hcs
    obtain ⟨rfl, rfl, rfl⟩ := hcs
    simp only [if_true] at hmm
    subst hmm
    rw [cells_ent] at hi
    have hus : Try.prog.underlying 42 = some (.slice 46) := Try.underlying42
    have hue := Try.underlying46
    obtain ⟨E, hE⟩ := choose_lt (α := En) (n := len) (p := fun i x => ∃ b off, (some a' : Option Addr) = some ⟨b, off, none⟩ ∧ W.cell? ⟨b, off + i * 2, none⟩ = some (.int .i64 x.1) ∧
      (∃ q, W.cell? ⟨b, off + i * 2 + 1, none⟩ = some q ∧ RdP W q x.2) ∧ (In64 x.1 ∧ ∀ y ∈ x.2, In64 y) ∧ x.2.length ≤ reachBytes) (fun i him => by
        obtain ⟨cs, hc, ht⟩ := hi i (by omega)
        obtain ⟨ys, n', _, hDi, hlen, hyl, hg⟩ := DataW.trod_struct Try.underlying46 ht
        obtain ⟨_, hcl, hat⟩ := World.cells?_some hc
        match cs, hcl with
        | [c0, c1], _ =>
          have g0 := hg 0 _ rfl
          have g1 := hg 1 _ rfl
          match ys, hyl with
          | [y0, y1], _ =>
            obtain ⟨x0, e0, _, wf0⟩ := DataW.trod_int Try.underlying3 (show DataW.trod enc Try.prog W 0 (fun _ => true) true n' 3 [c0] = some y0 from g0)
            obtain ⟨x1, hx1, hx2, hx3⟩ := trod_places_r (show DataW.trod enc Try.prog W 0 (fun _ => true) true n' 32 [c1] = some y1 from g1) (fun k hk => hs k (by
              rw [show d = _ from congrArg Prod.fst hdd]
              unfold DataW.weights
              rw [hus]
              refine List.mem_cons_of_mem _ (List.mem_append_left _ (mem_weightsAll (i := i) (d := D i) (by rw [List.getElem?_map, List.getElem?_range him]; rfl) _ ?_))
              rw [show D i = _ from congrArg Prod.fst hDi]
              unfold DataW.weights
              rw [hue]
              exact DataW.weights_mem_each (j := 1) rfl rfl k hk))
            simp only [List.cons.injEq, and_true] at e0
            subst e0
            have k0 := hat 0 (by omega)
            have k1 := hat 1 (by omega)
            simp only [List.getElem?_cons_zero, List.getElem?_cons_succ] at k0 k1
            obtain ⟨b, off, sp⟩ := a'
            have hs1 : sp = none := by
              obtain ⟨cs0, hc0, _⟩ := hi 0 (by omega)
              obtain ⟨_, hl0, hat0⟩ := World.cells?_some hc0
              have h00 := hat0 0 (by omega)
              rw [Nat.zero_mul, Addr.add_zero', Addr.add_zero', List.getElem?_eq_getElem (by omega)] at h00
              exact plain_of_cell h00
            subst hs1
            simp only [Addr.add_lit] at k0 k1
            exact ⟨(x0, x1), b, off, rfl, by simpa using k0, ⟨_, k1, hx1⟩, ⟨wf_i64 wf0, hx2⟩, hx3⟩)
    have hlen : ((List.range len).map E).length = len := by simp
    refine ⟨some a', (List.range len).map E, _, by rw [hlen], fun j e hj => ?_, by omega, by omega, (by intro e; cases e), fun e he => ?_⟩
    · rw [List.getElem?_map] at hj
      obtain ⟨i, hi1, rfl⟩ := Option.map_eq_some_iff.1 hj
      obtain ⟨hi2, hi3⟩ := List.getElem?_eq_some_iff.1 hi1
      rw [List.getElem_range] at hi3
      subst hi3
      obtain ⟨b, off, h1, h2, h3, _⟩ := hE j (by simpa using hi2)
      exact ⟨b, off, h1, h2, h3⟩
    · obtain ⟨i, hi1, rfl⟩ := List.mem_map.1 he
      obtain ⟨_, _, _, _, _, h4⟩ := hE i (List.mem_range.1 hi1)
      exact h4
end Go.Proofs.Ytaaeooimalglaaa
