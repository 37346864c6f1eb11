/-
  Rows that come in, of whatever elements: no row in them is greater than a machine has room for. Over the program's own text.
-/
import Derived.Test.YtaaeooimalglaaaEntArgs
namespace Go.Proofs.Ytaaeooimalglaaa
open Go.ChangeShapes Go.WideShapes Go.ChangeAt Go.RowKit Go.Deep

theorem choose_el {α : Type} {n : Nat} {p : Nat → α → Prop} (h : ∀ i, i < n → ∃ x, p i x) : ∃ f : Fin n → α, ∀ i : Fin n, p i (f i) :=
  ⟨fun i => Classical.choose (h i i.2), fun i => Classical.choose_spec (h i i.2)⟩
theorem trod_row {H α : Type} {enc : TypeId × Value → H} {W : World} {fuel : Nat} {c : Value} {x : DataW H × List MemPlace} (t e : TypeId) (k : Nat) (hu : Try.prog.underlying t = some (.slice e)) (hk : Try.prog.cellsOf e = k) (h0 : 0 < k) (h8 : 1 ≤ Try.prog.bytesOf e) (Q : Nat → Nat → α → Prop)
    (hf : DataW.trod enc Try.prog W 0 (fun _ => true) true fuel t [c] = some x) (hs : ∀ n ∈ x.1.weights Try.prog t, n ≤ reachBytes)
    (hel : ∀ (n : Nat) (cs : List Value) (y : DataW H × List MemPlace) (b o : Nat), SizeOf.sizeOf y.1 < SizeOf.sizeOf x.1 → DataW.trod enc Try.prog W 0 (fun _ => true) true n e cs = some y → (∀ m ∈ y.1.weights Try.prog e, m ≤ reachBytes) → cs.length = k → (∀ (j : Nat) (v : Value), cs[j]? = some v → W.cell? ⟨b, o + j, none⟩ = some v) → ∃ a, Q b o a) :
    ∃ (l : List α) (pa : Option Addr) (cap : Nat), c = .slice pa l.length cap ∧ l.length ≤ cap ∧ cap ≤ maxLen ∧ (pa = none → cap = 0) ∧ l.length ≤ reachBytes ∧ ∀ (j : Nat) (a : α), l[j]? = some a → ∃ g o : Nat, pa = some ⟨g, o, none⟩ ∧ Q g (o + j * k) a := by
  rcases open_slice hu hf with ⟨hcs, _⟩ | ⟨a', len, cap, m, n, D, Pl, hcs, _, hl, hm, hmm, hdd, hi⟩
  · simp only [List.cons.injEq, and_true] at hcs
    subst hcs
    exact ⟨[], none, 0, rfl, by simp, by simp [maxLen], fun _ => rfl, by simp, fun j a hj => by simp at hj⟩
  · simp only [List.cons.injEq, and_true] at hcs
    subst hcs
    simp only [if_true] at hmm
    subst hmm
    rw [hk] at hi
    have hd1 : x.1 = .slice ((List.range len).map D) ((List.range (m - len)).map fun j => D (len + j)) := congrArg Prod.fst hdd
    have hplain : 0 < m → ∃ b off, a' = ⟨b, off, none⟩ := fun hpos => by
      obtain ⟨cs0, hc0, _⟩ := hi 0 hpos
      obtain ⟨_, hl0, hat0⟩ := World.cells?_some hc0
      have h00 := hat0 0 (by omega)
      rw [Nat.zero_mul, Addr.add_zero', Addr.add_zero', List.getElem?_eq_getElem (by omega)] at h00
      obtain ⟨b, off, sp⟩ := a'
      exact ⟨b, off, by rw [show sp = none from plain_of_cell h00]⟩
    obtain ⟨E, hE⟩ := choose_el (α := α) (n := len) (p := fun i a => ∃ b off, (some a' : Option Addr) = some ⟨b, off, none⟩ ∧ Q b (off + i * k) a) (fun i him => by
      obtain ⟨cs, hc, ht⟩ := hi i (by omega)
      obtain ⟨_, hcl, hat⟩ := World.cells?_some hc
      obtain ⟨b, off, rfl⟩ := hplain (by omega)
      have hmem : D i ∈ (List.range len).map D := List.mem_map.2 ⟨i, List.mem_range.2 him, rfl⟩
      obtain ⟨a, ha⟩ := hel n cs (D i, Pl i) b (off + i * k) (by
        rw [hd1]
        have := List.sizeOf_lt_of_mem hmem
        show SizeOf.sizeOf (D i) < _
        simp
        omega) ht (fun q hq => hs q (by
          rw [hd1]
          unfold DataW.weights
          rw [hu]
          exact List.mem_cons_of_mem _ (List.mem_append_left _ (mem_weightsAll (i := i) (d := D i) (by rw [List.getElem?_map, List.getElem?_range him]; rfl) _ hq)))) hcl (fun j v hj => by
        have hjk : j < k := by have := (List.getElem?_eq_some_iff.1 hj).1; omega
        have := hat j hjk
        rw [hj] at this
        rw [Addr.add_lit, Addr.add_lit] at this
        exact this)
      exact ⟨a, b, off, rfl, ha⟩)
    have hlen : (List.ofFn E).length = len := by simp
    refine ⟨List.ofFn E, some a', m, by rw [hlen], by omega, by omega, (by intro h; cases h), ?_, fun j a hj => ?_⟩
    · have := hs ((((List.range len).map D).length + ((List.range (m - len)).map fun j => D (len + j)).length) * Try.prog.bytesOf e) (by
        rw [hd1]
        unfold DataW.weights
        rw [hu]
        exact List.mem_cons_self)
      rw [hlen]
      simp only [List.length_map, List.length_range] at this
      have h9 := Nat.le_mul_of_pos_right (len + (m - len)) h8
      omega
    · rw [List.getElem?_ofFn] at hj
      split at hj
      · rename_i hjl
        injection hj with hj
        subst hj
        exact hE ⟨j, hjl⟩
      · cases hj
theorem trod_i64 {H : Type} {enc : TypeId × Value → H} {W : World} {fuel : Nat} {c : Value} {y : DataW H × List MemPlace} (h : DataW.trod enc Try.prog W 0 (fun _ => true) true fuel 3 [c] = some y) : ∃ x : Int, c = .int .i64 x ∧ In64 x := by
  obtain ⟨x, e, _, wf⟩ := DataW.trod_int Try.underlying3 h
  simp only [List.cons.injEq, and_true] at e
  exact ⟨x, e, wf_i64 wf⟩
end Go.Proofs.Ytaaeooimalglaaa
