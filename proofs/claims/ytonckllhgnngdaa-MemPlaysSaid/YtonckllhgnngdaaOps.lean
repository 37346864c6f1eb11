/-
  A list of operations (a struct of a bool, an int and a uint32) that comes in: its elements, cell by cell.
-/
import Derived.Test.YtonckllhgnngdaaFrame
import Derived.Deep.Slices
namespace Go.Proofs.Ytonckllhgnngdaa
open Go.ChangeShapes Go.WideShapes Go.ChangeAt Go.RowKit Go.Deep

/-- What element i of a list of operations holds. -/
structure OpOf where
  load : Bool
  a : Int
  v : Int
instance : Inhabited OpOf := ⟨⟨false, 0, 0⟩⟩

theorem cells_op : Try.prog.cellsOf 36 = 3 := by kernel_rfl

/-- The cells of the list's elements, wherever the list lies. -/
structure OpsAt (W : World) (ao : Option Addr) (len : Nat) (E : Nat → OpOf) : Prop where
  short : len ≤ maxLen
  cell : ∀ i, i < len → ∃ b off, ao = some ⟨b, off, none⟩ ∧ b < W.heap.size ∧ W.cell? ⟨b, off + i * 3, none⟩ = some (.bool (E i).load) ∧
    W.cell? ⟨b, off + i * 3 + 1, none⟩ = some (.int .i64 (E i).a) ∧ W.cell? ⟨b, off + i * 3 + 2, none⟩ = some (.int .u32 (E i).v)
  wfa : ∀ i, i < len → (Lit.int .i64 (E i).a).wf = true
  wfv : ∀ i, i < len → (Lit.int .u32 (E i).v).wf = true

theorem lt_of_cell {W : World} {a : Addr} {v : Value} (h : W.cell? a = some v) : a.block < W.heap.size := by
  unfold World.cell? at h
  split at h
  · rename_i hh; exact (Array.getElem?_eq_some_iff.1 hh).1
  · cases h
theorem plain_of_cell {W : World} {a : Addr} {v : Value} (h : W.cell? a = some v) : a.spot = none := by
  unfold World.cell? at h
  split at h
  · split at h
    · cases h
    · rename_i hs; simpa using hs
  · cases h

theorem open_ops {H : Type} {enc : TypeId × Value → H} {W : World} {v : Value} {d : DataW H} {p : List MemPlace} {base : Nat}
    (hv : Value.okWide Try.prog W .any base 23 v) (h : DataW.Trod enc Try.prog W 0 (fun _ => true) true 23 v d p) :
    ∃ ao len cap E, v = .slice ao len cap ∧ OpsAt W ao len E := by
  obtain ⟨a, len, cap, rfl⟩ := okWide_slice Try.underlying23 hv
  obtain ⟨fuel, hf⟩ := h
  rcases open_slice Try.underlying23 hf with ⟨hcs, _⟩ | ⟨a', len', cap', m, n, D, Pl, hcs, _, hl, hm, hmm, _, hi⟩
  · simp only [Value.cells, List.cons.injEq, and_true, Value.slice.injEq] at hcs
    obtain ⟨rfl, rfl, rfl⟩ := hcs
    exact ⟨_, _, _, default, rfl, by simp [maxLen], fun i hi => by omega, fun i hi => by omega, fun i hi => by omega⟩
  · simp only [Value.cells, List.cons.injEq, and_true, Value.slice.injEq] at hcs
    obtain ⟨rfl, rfl, rfl⟩ := hcs
    simp only [if_true] at hmm
    subst hmm
    rw [cells_op] at hi
    obtain ⟨E, hE⟩ := choose_lt (α := OpOf) (n := len) (p := fun i x => ∃ b off, (some a' : Option Addr) = some ⟨b, off, none⟩ ∧ b < W.heap.size ∧ W.cell? ⟨b, off + i * 3, none⟩ = some (.bool x.load) ∧
      W.cell? ⟨b, off + i * 3 + 1, none⟩ = some (.int .i64 x.a) ∧ W.cell? ⟨b, off + i * 3 + 2, none⟩ = some (.int .u32 x.v) ∧ (Lit.int .i64 x.a).wf = true ∧ (Lit.int .u32 x.v).wf = true) (fun i him => by
        obtain ⟨cs, hc, ht⟩ := hi i (by omega)
        obtain ⟨ys, n', _, _, hlen, hyl, hg⟩ := DataW.trod_struct Try.underlying36 ht
        obtain ⟨_, hcl, hat⟩ := World.cells?_some hc
        match cs, hcl with
        | [c0, c1, c2], _ =>
          have g0 := hg 0 _ rfl
          have g1 := hg 1 _ rfl
          have g2 := hg 2 _ rfl
          match ys, hyl with
          | [y0, y1, y2], _ =>
            obtain ⟨x0, e0, _⟩ := DataW.trod_bool Try.underlying4 (show DataW.trod enc Try.prog W 0 (fun _ => true) true n' 4 [c0] = some y0 from g0)
            obtain ⟨x1, e1, _, wf1⟩ := DataW.trod_int Try.underlying3 (show DataW.trod enc Try.prog W 0 (fun _ => true) true n' 3 [c1] = some y1 from g1)
            obtain ⟨x2, e2, _, wf2⟩ := DataW.trod_int Try.underlying34 (show DataW.trod enc Try.prog W 0 (fun _ => true) true n' 34 [c2] = some y2 from g2)
            simp only [List.cons.injEq, and_true] at e0 e1 e2
            subst e0 e1 e2
            have k0 := hat 0 (by omega)
            have k1 := hat 1 (by omega)
            have k2 := hat 2 (by omega)
            simp only [List.getElem?_cons_zero, List.getElem?_cons_succ] at k0 k1 k2
            obtain ⟨b, off, sp⟩ := a'
            have hs1 : sp = none := by
              obtain ⟨cs0, hc0, _⟩ := hi 0 (by omega)
              obtain ⟨_, hl0, hat0⟩ := World.cells?_some hc0
              have h00 := hat0 0 (by omega)
              rw [Nat.zero_mul, Addr.add_zero', Addr.add_zero', List.getElem?_eq_getElem (by omega)] at h00
              exact plain_of_cell h00
            subst hs1
            simp only [Addr.add_lit] at k0 k1 k2
            exact ⟨⟨x0, x1, x2⟩, b, off, rfl, lt_of_cell k0, by simpa using k0, k1, k2, wf1, wf2⟩)
    exact ⟨_, _, _, E, rfl, by omega, fun i hi => let ⟨b, off, h1, h2, h3, h4, h5, _⟩ := hE i hi; ⟨b, off, h1, h2, h3, h4, h5⟩, fun i hi => let ⟨_, _, _, _, _, _, _, h6, _⟩ := hE i hi; h6, fun i hi => let ⟨_, _, _, _, _, _, _, _, h7⟩ := hE i hi; h7⟩
end Go.Proofs.Ytonckllhgnngdaa
