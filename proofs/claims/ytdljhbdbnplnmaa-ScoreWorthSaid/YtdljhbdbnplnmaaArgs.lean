/-
  Words on what comes in, over any seat's program: cells of structs and arrays by value, cells of a list's elements.
-/
import Derived.Test.YtdljhbdbnplnmaaFrame
import Derived.Deep.Slices
namespace Go.Proofs.Ytdljhbdbnplnmaa
open Go.ChangeShapes Go.WideShapes Go.ChangeAt Go.RowKit Go.Deep

theorem lt_of_cell {W : World} {a : Addr} {v : Value} (h : W.cell? a = some v) : a.block < W.heap.size := by
  unfold World.cell? at h
  split at h
  · rename_i hh; exact (Array.getElem?_eq_some_iff.1 hh).1
  · cases h
theorem plain_of_cell {W : World} {a : Addr} {v : Value} (h : W.cell? a = some v) : a.spot = none := by
  unfold World.cell? at h
  split at h
  · split at h
    · cases h
    · rename_i hs; simpa using hs
  · cases h

theorem agg_cells {W : World} {base : Nat} {t : TypeId} {v : Value} (hu : (match Try.prog.underlying t with | some (.struct _) | some (.array _ _) => true | _ => false) = true) (h : Value.okWide Try.prog W .any base t v) {ts : List TypeId} (hts : Try.prog.cellTypes Try.prog.depth t = some ts) :
    ∃ cs, v = .agg cs ∧ cs.size = Try.prog.cellsOf t ∧ ∀ (i : Nat) (c : Value) (u : TypeId), cs[i]? = some c → ts[i]? = some u → Cell.okWide Try.prog W .any base u c := by
  have key : ∃ cs, v = .agg cs ∧ cs.size = Try.prog.cellsOf t ∧ Row.okWide Try.prog W .any base t cs := by
    unfold Value.okWide at h
    split at h
    · exact h
    · exact h
    · rename_i h1 h2
      split at hu
      · rename_i fs hf; exact absurd hf (h1 fs)
      · rename_i n e hf; exact absurd hf (h2 n e)
      · cases hu
  obtain ⟨cs, hv, hs, ts', hts', _, hc⟩ := key
  obtain rfl : ts = ts' := Option.some.inj (hts.symm.trans hts')
  refine ⟨cs, hv, hs, fun i c u hi ht => ?_⟩
  obtain ⟨u', hu', hc'⟩ := hc i c hi
  have hlt : i < ts.length := (List.getElem?_eq_some_iff.1 ht).1
  rw [Nat.mod_eq_of_lt hlt, ht] at hu'
  obtain rfl : u = u' := Option.some.inj hu'
  exact hc'

theorem cell_int {W : World} {base : Nat} {u : TypeId} {c : Value} {k : IntKind} (hu : Try.prog.underlying u = some (.int k)) (h : Cell.okWide Try.prog W .any base u c) : ∃ n, c = .int k n ∧ k.min ≤ n ∧ n ≤ k.max := by
  simp only [hu, Cell.okWide] at h
  cases c <;> simp_all [Cell.ok, IntKind.has]
theorem cell_float {W : World} {base : Nat} {u : TypeId} {c : Value} {k : FloatKind} (hu : Try.prog.underlying u = some (.float k)) (h : Cell.okWide Try.prog W .any base u c) : ∃ b, c = .float k b := by
  simp only [hu, Cell.okWide] at h
  cases c <;> simp_all [Cell.ok]

end Go.Proofs.Ytdljhbdbnplnmaa
