/-
  Trees that come in, however deep. Over the program's own text.
-/
import Derived.Test.YtaaeooimalglaaaTokRow
import Derived.Test.YtaaeooimalglaaaNodeGreat
namespace Go.Proofs.Ytaaeooimalglaaa
open Go.ChangeShapes Go.WideShapes Go.ChangeAt Go.RowKit Go.Deep

theorem trod_node {H : Type} {enc : TypeId × Value → H} {W : World} : ∀ (N fuel : Nat) (cs : List Value) (y : DataW H × List MemPlace), SizeOf.sizeOf y.1 < N → DataW.trod enc Try.prog W 0 (fun _ => true) true fuel 31 cs = some y → (∀ m ∈ y.1.weights Try.prog 31, m ≤ reachBytes) → cs.length = 4 →
    ∃ x r, cs = rnC r ∧ RdN W (fun _ => True) x r ∧ ReachN x
  | 0, _, _, _, h, _, _, _ => absurd h (by omega)
  | N + 1, fuel, cs, y, hN, ht, hw, hcl => by
    obtain ⟨ys, n', _, hD, _, hyl, hg⟩ := DataW.trod_struct Try.underlying31 ht
    match cs, hcl with
    | [c0, c1, c2, c3], _ =>
      have g0 := hg 0 _ rfl
      have g1 := hg 1 _ rfl
      have g2 := hg 2 _ rfl
      have g3 := hg 3 _ rfl
      match ys, hyl with
      | [y0, y1, y2, y3], _ =>
        have hD1 : y.1 = .agg [y0.1, y1.1, y2.1, y3.1] := congrArg Prod.fst hD
        have hwt : ∀ (j : Nat) (t : TypeId) (d : DataW H), ([3, 5, 22, 29] : List TypeId)[j]? = some t → ([y0.1, y1.1, y2.1, y3.1] : List (DataW H))[j]? = some d → ∀ m ∈ d.weights Try.prog t, m ≤ reachBytes := fun j t d h1 h2 m hm => hw m (by
          rw [hD1]
          unfold DataW.weights
          rw [show Try.prog.underlying 31 = _ from Try.underlying31]
          exact DataW.weights_mem_each h1 h2 m hm)
        obtain ⟨k, rfl, _⟩ := trod_i64 (show DataW.trod enc Try.prog W 0 (fun _ => true) true n' 3 [c0] = some y0 from g0)
        obtain ⟨f, e1, _, wf1⟩ := DataW.trod_int Try.underlying5 (show DataW.trod enc Try.prog W 0 (fun _ => true) true n' 5 [c1] = some y1 from g1)
        simp only [List.cons.injEq, and_true] at e1
        subst e1
        have hf := bounds_u8 wf1
        obtain ⟨ts, ta, tc, rfl, t2, t3, t4, t5, t6, t7⟩ := trod_toks (show DataW.trod enc Try.prog W 0 (fun _ => true) true n' 22 [c2] = some y2 from g2) (hwt 2 _ _ rfl rfl)
        obtain ⟨l, ka, kc, rfl, k2, k3, k4, k5, k6⟩ := trod_row (α := Nd × Rn) 29 31 4 Try.underlying29 (by kernel_rfl) (by decide) (by decide +kernel) (fun b o a => (∀ (i : Nat) (v : Value), (rnC a.2)[i]? = some v → W.cell? ⟨b, o + i, none⟩ = some v) ∧ RdN W (fun _ => True) a.1 a.2 ∧ ReachN a.1)
          (show DataW.trod enc Try.prog W 0 (fun _ => true) true n' 29 [c3] = some y3 from g3) (hwt 3 _ _ rfl rfl)
          (fun n cs' y' b o hlt ht' hw' hcl' hat => by
            have hsz : SizeOf.sizeOf y3.1 < SizeOf.sizeOf y.1 := by rw [hD1]; simp; omega
            obtain ⟨x, r, hcs, hx, hrx⟩ := trod_node N n cs' y' (by omega) ht' hw' hcl'
            exact ⟨(x, r), fun i v hv => hat i v (by rw [hcs]; exact hv), hx, hrx⟩)
        refine ⟨.mk k f ts (l.map (·.1)), (k, f, .slice ta ts.length tc, .slice ka (l.map (·.1)).length kc), by rw [List.length_map]; rfl, ?_, .mk t5 t7 (by rw [List.length_map]; exact k5) (fun x hx => ?_)⟩
        · refine RdN.mk (rs := l.map (·.2)) hf.1 hf.2 t6 t2 t3 (fun _ _ _ => trivial) (fun j r hj => ?_) (by rw [List.length_map]; exact k2) k3 (fun _ _ _ => trivial) (by rw [List.length_map, List.length_map]) (fun j x r h1 h2 => ?_)
          · rw [List.getElem?_map] at hj
            obtain ⟨a, ha, rfl⟩ := Option.map_eq_some_iff.1 hj
            obtain ⟨g, o, q1, q2, _⟩ := k6 j a ha
            exact ⟨g, o, q1, q2⟩
          · rw [List.getElem?_map] at h1 h2
            obtain ⟨a, ha, rfl⟩ := Option.map_eq_some_iff.1 h1
            rw [ha] at h2
            injection h2 with h2
            subst h2
            obtain ⟨g, o, _, _, q3, _⟩ := k6 j a ha
            exact q3
        · obtain ⟨a, ha, rfl⟩ := List.mem_map.1 hx
          obtain ⟨i, hi, rfl⟩ := List.getElem_of_mem ha
          obtain ⟨g, o, _, _, _, q4⟩ := k6 i _ (List.getElem?_eq_getElem hi)
          exact q4
theorem open_node {H : Type} {enc : TypeId × Value → H} {W : World} {v : Value} {d : DataW H} {p : List MemPlace} {base : Nat}
    (hs : ∀ n ∈ d.weights Try.prog 31, n ≤ reachBytes) (hv : Value.okWide Try.prog W .any base 31 v) (h : DataW.Trod enc Try.prog W 0 (fun _ => true) true 31 v d p) :
    ∃ x r, v = rnV r ∧ RdN W (fun _ => True) x r ∧ ReachN x := by
  obtain ⟨cs, rfl, hsz, _⟩ := agg_cells (by kernel_rfl) hv (ts := [3, 5, 22, 29]) (by kernel_rfl)
  obtain ⟨fuel, hf⟩ := h
  rw [show Try.prog.cellsOf 31 = 4 by kernel_rfl] at hsz
  obtain ⟨x, r, h1, h2, h3⟩ := trod_node (SizeOf.sizeOf d + 1) fuel cs.toList (d, p) (by show SizeOf.sizeOf d < _; omega) hf hs (by simpa using hsz)
  exact ⟨x, r, by unfold rnV; rw [← h1], h2, h3⟩
theorem open_nodes {H : Type} {enc : TypeId × Value → H} {W : World} {v : Value} {d : DataW H} {p : List MemPlace} {base : Nat}
    (hs : ∀ n ∈ d.weights Try.prog 29, n ≤ reachBytes) (hv : Value.okWide Try.prog W .any base 29 v) (h : DataW.Trod enc Try.prog W 0 (fun _ => true) true 29 v d p) :
    ∃ (ao : Option Addr) (ks : List Nd) (rs : List Rn) (cap : Nat), v = .slice ao (List.length ks) cap ∧ ks.length ≤ cap ∧ cap ≤ maxLen ∧ ReadR W ao rs ∧ rs.length = ks.length ∧ (∀ (j : Nat) x r, ks[j]? = some x → rs[j]? = some r → RdN W (fun _ => True) x r) ∧ (∀ x ∈ ks, ReachN x) ∧ ks.length ≤ reachBytes := by
  obtain ⟨a, len, cap, rfl⟩ := okWide_slice Try.underlying29 hv
  obtain ⟨fuel, hf⟩ := h
  obtain ⟨l, ka, kc, h1, k2, k3, k4, k5, k6⟩ := trod_row (α := Nd × Rn) 29 31 4 Try.underlying29 (by kernel_rfl) (by decide) (by decide +kernel) (fun b o a => (∀ (i : Nat) (v : Value), (rnC a.2)[i]? = some v → W.cell? ⟨b, o + i, none⟩ = some v) ∧ RdN W (fun _ => True) a.1 a.2 ∧ ReachN a.1)
    (show DataW.trod enc Try.prog W 0 (fun _ => true) true fuel 29 [.slice a len cap] = some (d, p) from hf) hs
    (fun n cs' y' b o _ ht' hw' hcl' hat => by
      obtain ⟨x, r, hcs, hx, hrx⟩ := trod_node (SizeOf.sizeOf y'.1 + 1) n cs' y' (by omega) ht' hw' hcl'
      exact ⟨(x, r), fun i v hv => hat i v (by rw [hcs]; exact hv), hx, hrx⟩)
  refine ⟨ka, l.map (·.1), l.map (·.2), kc, by rw [List.length_map]; exact h1, by rw [List.length_map]; exact k2, k3, fun j r hj => ?_, by rw [List.length_map, List.length_map], fun j x r h1 h2 => ?_, fun x hx => ?_, by rw [List.length_map]; exact k5⟩
  · rw [List.getElem?_map] at hj
    obtain ⟨a, ha, rfl⟩ := Option.map_eq_some_iff.1 hj
    obtain ⟨g, o, q1, q2, _⟩ := k6 j a ha
    exact ⟨g, o, q1, q2⟩
  · rw [List.getElem?_map] at h1 h2
    obtain ⟨a, ha, rfl⟩ := Option.map_eq_some_iff.1 h1
    rw [ha] at h2
    injection h2 with h2
    subst h2
    obtain ⟨g, o, _, _, q3, _⟩ := k6 j a ha
    exact q3
  · obtain ⟨a, ha, rfl⟩ := List.mem_map.1 hx
    obtain ⟨i, hi, rfl⟩ := List.getElem_of_mem ha
    obtain ⟨g, o, _, _, _, q4⟩ := k6 i _ (List.getElem?_eq_getElem hi)
    exact q4
end Go.Proofs.Ytaaeooimalglaaa
