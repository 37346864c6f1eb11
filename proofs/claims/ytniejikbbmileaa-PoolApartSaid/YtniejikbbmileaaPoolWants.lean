/-
  A list of wants (a struct of two ints) that comes in: its elements, cell by cell.
-/
import Derived.Test.YtniejikbbmileaaFrame
import Derived.Deep.Slices
namespace Go.Proofs.Ytniejikbbmileaa
open Go.ChangeShapes Go.WideShapes Go.ChangeAt Go.RowKit Go.Deep

/-- What element i of a list of wants holds. -/
structure WantOf where
  k : Int
  n : Int
instance : Inhabited WantOf := ⟨⟨0, 0⟩⟩

theorem cells_want : Try.prog.cellsOf 45 = 2 := by kernel_rfl

/-- The cells of the list's elements, wherever the list lies. -/
structure WantsAt (W : World) (ao : Option Addr) (len : Nat) (E : Nat → WantOf) : Prop where
  short : len ≤ maxLen
  cell : ∀ i, i < len → ∃ b off, ao = some ⟨b, off, none⟩ ∧ b < W.heap.size ∧ W.cell? ⟨b, off + i * 2, none⟩ = some (.int .i64 (E i).k) ∧ W.cell? ⟨b, off + i * 2 + 1, none⟩ = some (.int .i64 (E i).n)

theorem lt_of_cell' {W : World} {a : Addr} {v : Value} (h : W.cell? a = some v) : a.block < W.heap.size := by
  unfold World.cell? at h
  split at h
  · rename_i hh; exact (Array.getElem?_eq_some_iff.1 hh).1
  · cases h
theorem plain_of_cell' {W : World} {a : Addr} {v : Value} (h : W.cell? a = some v) : a.spot = none := by
  unfold World.cell? at h
  split at h
  · split at h
    · cases h
    · rename_i hs; simpa using hs
  · cases h

theorem open_wants {H : Type} {enc : TypeId × Value → H} {W : World} {v : Value} {d : DataW H} {p : List MemPlace} {base : Nat}
    (hv : Value.okWide Try.prog W .any base 42 v) (h : DataW.Trod enc Try.prog W 0 (fun _ => true) true 42 v d p) :
    ∃ ao len cap E, v = .slice ao len cap ∧ WantsAt W ao len E := by
  obtain ⟨a, len, cap, rfl⟩ := okWide_slice Try.underlying42 hv
  obtain ⟨fuel, hf⟩ := h
  rcases open_slice Try.underlying42 hf with ⟨hcs, _⟩ | ⟨a', len', cap', m, n, D, Pl, hcs, _, hl, hm, hmm, _, hi⟩
  · simp only [Value.cells, List.cons.injEq, and_true, Value.slice.injEq] at hcs
    obtain ⟨rfl, rfl, rfl⟩ := hcs
    exact ⟨_, _, _, default, rfl, by simp [maxLen], fun i hi => by omega⟩
  · simp only [Value.cells, List.cons.injEq, and_true, Value.slice.injEq] at hcs
    obtain ⟨rfl, rfl, rfl⟩ := hcs
    simp only [if_true] at hmm
    subst hmm
    rw [cells_want] at hi
    obtain ⟨E, hE⟩ := choose_lt (α := WantOf) (n := len) (p := fun i x => ∃ b off, (some a' : Option Addr) = some ⟨b, off, none⟩ ∧ b < W.heap.size ∧ W.cell? ⟨b, off + i * 2, none⟩ = some (.int .i64 x.k) ∧
      W.cell? ⟨b, off + i * 2 + 1, none⟩ = some (.int .i64 x.n)) (fun i him => by
        obtain ⟨cs, hc, ht⟩ := hi i (by omega)
        obtain ⟨ys, n', _, _, hlen, hyl, hg⟩ := DataW.trod_struct Try.underlying45 ht
        obtain ⟨_, hcl, hat⟩ := World.cells?_some hc
        match cs, hcl with
        | [c0, c1], _ =>
          have g0 := hg 0 _ rfl
          have g1 := hg 1 _ rfl
          match ys, hyl with
          | [y0, y1], _ =>
            obtain ⟨x0, e0, _⟩ := DataW.trod_int Try.underlying3 (show DataW.trod enc Try.prog W 0 (fun _ => true) true n' 3 [c0] = some y0 from g0)
            obtain ⟨x1, e1, _⟩ := DataW.trod_int Try.underlying3 (show DataW.trod enc Try.prog W 0 (fun _ => true) true n' 3 [c1] = some y1 from g1)
            simp only [List.cons.injEq, and_true] at e0 e1
            subst e0 e1
            have k0 := hat 0 (by omega)
            have k1 := hat 1 (by omega)
            simp only [List.getElem?_cons_zero, List.getElem?_cons_succ] at k0 k1
            obtain ⟨b, off, sp⟩ := a'
            have hs1 : sp = none := by
              obtain ⟨cs0, hc0, _⟩ := hi 0 (by omega)
              obtain ⟨_, hl0, hat0⟩ := World.cells?_some hc0
              have h00 := hat0 0 (by omega)
              rw [Nat.zero_mul, Addr.add_zero', Addr.add_zero', List.getElem?_eq_getElem (by omega)] at h00
              exact plain_of_cell' h00
            subst hs1
            simp only [Addr.add_lit] at k0 k1
            exact ⟨⟨x0, x1⟩, b, off, rfl, lt_of_cell' k0, by simpa using k0, k1⟩)
    exact ⟨_, _, _, E, rfl, by omega, hE⟩
end Go.Proofs.Ytniejikbbmileaa
