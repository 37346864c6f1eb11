/-
  A list of instructions that comes in: its elements, cell by cell. And what is cut of it.
-/
import Derived.Test.YtdmcnlkmfohmdaaArgs
import Derived.Test.YtdmcnlkmfohmdaaStepFixed
namespace Go.Proofs.Ytdmcnlkmfohmdaa
open Go.ChangeShapes Go.WideShapes Go.ChangeAt Go.RowKit Go.Deep

theorem cells_ins : Try.prog.cellsOf 51 = 3 := by kernel_rfl

theorem InsAt.cut {w : World} {D : Nat → Prop} {ao : Option Addr} {len : Nat} {E : Nat → Ins} (h : InsAt w D ao len E) (n : Nat) : InsAt w D ao (min len n) E := ⟨fun i hi => h.cell i (by omega), h.v_u⟩

theorem trod_ins {H : Type} {enc : TypeId × Value → H} {W : World} {fuel : Nat} {cs : List Value} {x : DataW H × List MemPlace} (hf : DataW.trod enc Try.prog W 0 (fun _ => true) true fuel 32 cs = some x) :
    ∃ ao len cap E, cs = [.slice ao len cap] ∧ InsAt W (· < W.heap.size) ao len E ∧ len ≤ cap ∧ cap ≤ maxLen := by
  rcases open_slice Try.underlying32 hf with ⟨hcs, _⟩ | ⟨a', len', cap', m, n, D, Pl, hcs, _, hl, hm, hmm, _, hi⟩
  · exact ⟨_, _, _, default, hcs, ⟨fun i hi => by omega, fun i => ⟨by simp [default], by simp [default]⟩⟩, by omega, by simp [maxLen]⟩
  · simp only [if_true] at hmm
    subst hmm
    rw [cells_ins] at hi
    obtain ⟨E, hE⟩ := choose_lt (α := Ins) (n := len') (p := fun i x => ∃ b off, (some a' : Option Addr) = some ⟨b, off, none⟩ ∧ b < W.heap.size ∧ W.cell? ⟨b, off + i * 3, none⟩ = some (.int .i64 x.op) ∧
      W.cell? ⟨b, off + i * 3 + 1, none⟩ = some (.int .i64 x.a) ∧ W.cell? ⟨b, off + i * 3 + 2, none⟩ = some (.int .u32 x.v) ∧ (Lit.int .u32 x.v).wf = true) (fun i him => by
        obtain ⟨cs, hc, ht⟩ := hi i (by omega)
        obtain ⟨ys, n', _, _, hlen, hyl, hg⟩ := DataW.trod_struct Try.underlying51 ht
        obtain ⟨_, hcl, hat⟩ := World.cells?_some hc
        match cs, hcl with
        | [c0, c1, c2], _ =>
          have g0 := hg 0 _ rfl
          have g1 := hg 1 _ rfl
          have g2 := hg 2 _ rfl
          match ys, hyl with
          | [y0, y1, y2], _ =>
            obtain ⟨x0, e0, _, wf0⟩ := DataW.trod_int Try.underlying3 (show DataW.trod enc Try.prog W 0 (fun _ => true) true n' 3 [c0] = some y0 from g0)
            obtain ⟨x1, e1, _, wf1⟩ := DataW.trod_int Try.underlying3 (show DataW.trod enc Try.prog W 0 (fun _ => true) true n' 3 [c1] = some y1 from g1)
            obtain ⟨x2, e2, _, wf2⟩ := DataW.trod_int Try.underlying36 (show DataW.trod enc Try.prog W 0 (fun _ => true) true n' 36 [c2] = some y2 from g2)
            simp only [List.cons.injEq, and_true] at e0 e1 e2
            subst e0 e1 e2
            have k0 := hat 0 (by omega)
            have k1 := hat 1 (by omega)
            have k2 := hat 2 (by omega)
            simp only [List.getElem?_cons_zero, List.getElem?_cons_succ] at k0 k1 k2
            obtain ⟨b, off, sp⟩ := a'
            have hs1 : sp = none := by
              obtain ⟨cs0, hc0, _⟩ := hi 0 (by omega)
              obtain ⟨_, hl0, hat0⟩ := World.cells?_some hc0
              have h00 := hat0 0 (by omega)
              rw [Nat.zero_mul, Addr.add_zero', Addr.add_zero', List.getElem?_eq_getElem (by omega)] at h00
              exact plain_of_cell h00
            subst hs1
            simp only [Addr.add_lit] at k0 k1 k2
            exact ⟨⟨x0, x1, x2⟩, b, off, rfl, lt_of_cell k0, by simpa using k0, k1, k2, wf2⟩)
    refine ⟨_, _, _, fun i => if i < len' then E i else default, hcs, ⟨fun i hi => ?_, fun i => ?_⟩, by omega, by omega⟩
    · obtain ⟨b, off, h1, h2, h3, h4, h5, _⟩ := hE i hi
      simp only [hi, if_true]
      exact ⟨b, off, h1, h2, h2, h3, h4, h5⟩
    · by_cases hi : i < len'
      · obtain ⟨_, _, _, _, _, _, _, h6⟩ := hE i hi
        simp only [hi, if_true]
        exact ⟨u32_lo h6, u32_hi h6⟩
      · simp only [hi, if_false]
        exact ⟨by simp [default], by simp [default]⟩

theorem open_ins {H : Type} {enc : TypeId × Value → H} {W : World} {v : Value} {d : DataW H} {p : List MemPlace} {base : Nat}
    (hv : Value.okWide Try.prog W .any base 32 v) (h : DataW.Trod enc Try.prog W 0 (fun _ => true) true 32 v d p) :
    ∃ ao len cap E, v = .slice ao len cap ∧ InsAt W (· < W.heap.size) ao len E ∧ len ≤ cap ∧ cap ≤ maxLen := by
  obtain ⟨a, len, cap, rfl⟩ := okWide_slice Try.underlying32 hv
  obtain ⟨fuel, hf⟩ := h
  obtain ⟨ao, len', cap', E, hcs, h⟩ := trod_ins hf
  simp only [Value.cells, List.cons.injEq, and_true, Value.slice.injEq] at hcs
  obtain ⟨rfl, rfl, rfl⟩ := hcs
  exact ⟨_, _, _, E, rfl, h⟩
end Go.Proofs.Ytdmcnlkmfohmdaa
