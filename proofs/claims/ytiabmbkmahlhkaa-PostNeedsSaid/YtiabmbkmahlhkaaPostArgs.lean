/-
  Lists of words to add, and of bytes, that come in: their elements, cell by cell.
-/
import Derived.Test.YtiabmbkmahlhkaaPostUndWalk
import Derived.Test.YtiabmbkmahlhkaaPoolArgs
namespace Go.Proofs.Ytiabmbkmahlhkaa
open Go.ChangeShapes Go.WideShapes Go.ChangeAt Go.RowKit Go.Deep

theorem cells_op : Try.prog.cellsOf 43 = 2 := by kernel_rfl
theorem open_ops {H : Type} {enc : TypeId × Value → H} {W : World} {v : Value} {d : DataW H} {p : List MemPlace} {base : Nat}
    (hv : Value.okWide Try.prog W .any base 26 v) (h : DataW.Trod enc Try.prog W 0 (fun _ => true) true 26 v d p) :
    ∃ ao len cap E, v = .slice ao len cap ∧ OpsAt W ao len E := by
  obtain ⟨a, len, cap, rfl⟩ := okWide_slice Try.underlying26 hv
  obtain ⟨fuel, hf⟩ := h
  rcases open_slice Try.underlying26 hf with ⟨hcs, _⟩ | ⟨a', len', cap', m, n, D, Pl, hcs, _, hl, hm, hmm, _, hi⟩
  · simp only [Value.cells, List.cons.injEq, and_true, Value.slice.injEq] at hcs
    obtain ⟨rfl, rfl, rfl⟩ := hcs
    exact ⟨_, _, _, default, rfl, by simp [maxLen], fun i hi => by omega⟩
  · simp only [Value.cells, List.cons.injEq, and_true, Value.slice.injEq] at hcs
    obtain ⟨rfl, rfl, rfl⟩ := hcs
    simp only [if_true] at hmm
    subst hmm
    rw [cells_op] at hi
    obtain ⟨E, hE⟩ := choose_lt (α := OpOf) (n := len) (p := fun i x => ∃ b off, (some a' : Option Addr) = some ⟨b, off, none⟩ ∧ b < W.heap.size ∧ W.cell? ⟨b, off + i * 2, none⟩ = some (.int .u8 (x.t : Int)) ∧
      W.cell? ⟨b, off + i * 2 + 1, none⟩ = some (.int .u32 (x.x : Int)) ∧ x.t < 256 ∧ x.x < 4294967296) (fun i him => by
        obtain ⟨cs, hc, ht⟩ := hi i (by omega)
        obtain ⟨ys, n', _, _, hlen, hyl, hg⟩ := DataW.trod_struct Try.underlying43 ht
        obtain ⟨_, hcl, hat⟩ := World.cells?_some hc
        match cs, hcl with
        | [c0, c1], _ =>
          have g0 := hg 0 _ rfl
          have g1 := hg 1 _ rfl
          match ys, hyl with
          | [y0, y1], _ =>
            obtain ⟨x0, e0, _, wf0⟩ := DataW.trod_int Try.underlying5 (show DataW.trod enc Try.prog W 0 (fun _ => true) true n' 5 [c0] = some y0 from g0)
            obtain ⟨x1, e1, _, wf1⟩ := DataW.trod_int Try.underlying41 (show DataW.trod enc Try.prog W 0 (fun _ => true) true n' 41 [c1] = some y1 from g1)
            simp only [List.cons.injEq, and_true] at e0 e1
            subst e0 e1
            have k0 := hat 0 (by omega)
            have k1 := hat 1 (by omega)
            simp only [List.getElem?_cons_zero, List.getElem?_cons_succ] at k0 k1
            obtain ⟨b, off, sp⟩ := a'
            have hs1 : sp = none := by
              obtain ⟨cs0, hc0, _⟩ := hi 0 (by omega)
              obtain ⟨_, hl0, hat0⟩ := World.cells?_some hc0
              have h00 := hat0 0 (by omega)
              rw [Nat.zero_mul, Addr.add_zero', Addr.add_zero', List.getElem?_eq_getElem (by omega)] at h00
              exact plain_of_cell h00
            subst hs1
            simp only [Addr.add_lit] at k0 k1
            have b0 := u8_lo wf0
            have b1 := u8_hi wf0
            have b2 := u32_lo wf1
            have b3 := u32_hi wf1
            obtain ⟨z0, rfl⟩ := Int.eq_ofNat_of_zero_le b0
            obtain ⟨z1, rfl⟩ := Int.eq_ofNat_of_zero_le b2
            exact ⟨⟨z0, z1⟩, b, off, rfl, lt_of_cell k0, by simpa using k0, k1, by simp only; omega, by simp only; omega⟩)
    exact ⟨_, _, _, E, rfl, by omega, hE⟩
theorem open_bytes8 {H : Type} {enc : TypeId × Value → H} {W : World} {v : Value} {d : DataW H} {p : List MemPlace} {base : Nat} (hv : Value.okWide Try.prog W .any base 48 v) (h : DataW.Trod enc Try.prog W 0 (fun _ => true) true 48 v d p) :
    ∃ ao L cap, v = .slice ao L.length cap ∧ ReadN .u8 W ao L ∧ L.length ≤ maxLen ∧ ∀ x ∈ L, x < 256 := by
  obtain ⟨ao, L, cap, h1, h2, h3, h4, _, h6⟩ := open_nums (k := .u8) rfl Try.underlying48 Try.underlying5 (by kernel_rfl) hv h
  exact ⟨ao, L, cap, h1, h2, by omega, h6⟩
end Go.Proofs.Ytiabmbkmahlhkaa
