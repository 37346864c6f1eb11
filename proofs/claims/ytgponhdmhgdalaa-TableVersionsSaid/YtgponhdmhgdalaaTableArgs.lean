/-
  Acts and numbers that come in. Over the program's own text.
-/
import Derived.Test.YtgponhdmhgdalaaTableSaw
import Derived.Test.YtgponhdmhgdalaaArgs
import Derived.Test.YtgponhdmhgdalaaNums
import Derived.Test.YtgponhdmhgdalaaFrame
import Derived.ChangeArms
namespace Go.Proofs.Ytgponhdmhgdalaa
open Go.ChangeShapes Go.WideShapes Go.ChangeAt Go.RowKit Go.Deep

theorem cells_ac : Try.prog.cellsOf 31 = 4 := by kernel_rfl
instance : Inhabited Ac := ⟨⟨false, 0, 0, 0⟩⟩
theorem trod_acs {H : Type} {enc : TypeId × Value → H} {W : World} {fuel : Nat} {cs : List Value} {x : DataW H × List MemPlace} (hf : DataW.trod enc Try.prog W 0 (fun _ => true) true fuel 22 cs = some x) :
    ∃ ao cap F, cs = [.slice ao (List.length F) cap] ∧ ReadAc W ao F ∧ F.length ≤ maxLen := by
  rcases open_slice Try.underlying22 hf with ⟨hcs, _⟩ | ⟨a', len', cap', m, n, D, Pl, hcs, _, hl, hm, hmm, _, hi⟩
  · exact ⟨_, _, [], hcs, fun j x hj => by simp at hj, by simp⟩
  · simp only [if_true] at hmm
    subst hmm
    rw [cells_ac] at hi
    obtain ⟨E, hE⟩ := choose_lt (α := Ac) (n := len') (p := fun i x => x.Ok ∧ ∃ b off, (some a' : Option Addr) = some ⟨b, off, none⟩ ∧ W.cell? ⟨b, off + i * 4, none⟩ = some (.bool x.kl) ∧
      W.cell? ⟨b, off + i * 4 + 1, none⟩ = some (.int .u8 x.ai) ∧ W.cell? ⟨b, off + i * 4 + 2, none⟩ = some (.int .u32 x.id) ∧ W.cell? ⟨b, off + i * 4 + 3, none⟩ = some (.int .u32 x.ln)) (fun i him => by
        obtain ⟨cs, hc, ht⟩ := hi i (by omega)
        obtain ⟨ys, n', _, _, hlen, hyl, hg⟩ := DataW.trod_struct Try.underlying31 ht
        obtain ⟨_, hcl, hat⟩ := World.cells?_some hc
        match cs, hcl with
        | [c0, c1, c2, c3], _ =>
          have g0 := hg 0 _ rfl
          have g1 := hg 1 _ rfl
          have g2 := hg 2 _ rfl
          have g3 := hg 3 _ rfl
          match ys, hyl with
          | [y0, y1, y2, y3], _ =>
            obtain ⟨x0, e0, _⟩ := DataW.trod_bool Try.underlying4 (show DataW.trod enc Try.prog W 0 (fun _ => true) true n' 4 [c0] = some y0 from g0)
            obtain ⟨x1, e1, _, wf1⟩ := DataW.trod_int Try.underlying5 (show DataW.trod enc Try.prog W 0 (fun _ => true) true n' 5 [c1] = some y1 from g1)
            obtain ⟨x2, e2, _, wf2⟩ := DataW.trod_int Try.underlying28 (show DataW.trod enc Try.prog W 0 (fun _ => true) true n' 28 [c2] = some y2 from g2)
            obtain ⟨x3, e3, _, wf3⟩ := DataW.trod_int Try.underlying28 (show DataW.trod enc Try.prog W 0 (fun _ => true) true n' 28 [c3] = some y3 from g3)
            simp only [List.cons.injEq, and_true] at e0 e1 e2 e3
            subst e0 e1 e2 e3
            have k0 := hat 0 (by omega)
            have k1 := hat 1 (by omega)
            have k2 := hat 2 (by omega)
            have k3 := hat 3 (by omega)
            simp only [List.getElem?_cons_zero, List.getElem?_cons_succ] at k0 k1 k2 k3
            obtain ⟨b, off, sp⟩ := a'
            have hs1 : sp = none := by
              obtain ⟨cs0, hc0, _⟩ := hi 0 (by omega)
              obtain ⟨_, hl0, hat0⟩ := World.cells?_some hc0
              have h00 := hat0 0 (by omega)
              rw [Nat.zero_mul, Addr.add_zero', Addr.add_zero', List.getElem?_eq_getElem (by omega)] at h00
              exact plain_of_cell h00
            subst hs1
            simp only [Addr.add_lit] at k0 k1 k2 k3
            exact ⟨⟨x0, x1, x2, x3⟩, ⟨⟨u8_lo wf1, u8_hi wf1⟩, ⟨u32_lo wf2, u32_hi wf2⟩, ⟨u32_lo wf3, u32_hi wf3⟩⟩, b, off, rfl, by simpa using k0, k1, k2, k3⟩)
    refine ⟨_, _, (List.range len').map E, by rw [List.length_map, List.length_range]; exact hcs, fun j x hj => ?_, by rw [List.length_map, List.length_range]; omega⟩
    have hlt : j < len' := by
      have := (List.getElem?_eq_some_iff.1 hj).1
      rwa [List.length_map, List.length_range] at this
    rw [List.getElem?_map, List.getElem?_range hlt] at hj
    simp only [Option.map_some, Option.some.injEq] at hj
    subst hj
    exact hE j hlt
theorem open_acs {H : Type} {enc : TypeId × Value → H} {W : World} {v : Value} {d : DataW H} {p : List MemPlace} {base : Nat}
    (hv : Value.okWide Try.prog W .any base 22 v) (h : DataW.Trod enc Try.prog W 0 (fun _ => true) true 22 v d p) :
    ∃ ao F cap, v = .slice ao (List.length F) cap ∧ ReadAc W ao F ∧ F.length ≤ maxLen := by
  obtain ⟨a, len, cap, rfl⟩ := okWide_slice Try.underlying22 hv
  obtain ⟨fuel, hf⟩ := h
  obtain ⟨ao, cap', F, hcs, h⟩ := trod_acs hf
  simp only [Value.cells, List.cons.injEq, and_true, Value.slice.injEq] at hcs
  obtain ⟨rfl, rfl, rfl⟩ := hcs
  exact ⟨_, F, _, rfl, h⟩
theorem open_u32s {H : Type} {enc : TypeId × Value → H} {W : World} {v : Value} {d : DataW H} {p : List MemPlace} {base : Nat} (hv : Value.okWide Try.prog W .any base 39 v) (h : DataW.Trod enc Try.prog W 0 (fun _ => true) true 39 v d p) :
    ∃ ao L cap, v = .slice ao L.length cap ∧ ReadN .u32 W ao L ∧ L.length ≤ maxLen ∧ ∀ x ∈ L, x < 4294967296 := by
  obtain ⟨ao, L, cap, h1, h2, h3, h4, _, h6⟩ := open_nums (k := .u32) rfl Try.underlying39 Try.underlying28 (by kernel_rfl) hv h
  exact ⟨ao, L, cap, h1, h2, by omega, h6⟩
end Go.Proofs.Ytgponhdmhgdalaa
