/-
  Configurations and rows of six that come in: their cells. And lists of wants.
-/
import Derived.Test.YtiabmbkmahlhkaaArgs
import Derived.Test.YtiabmbkmahlhkaaPoolB
namespace Go.Proofs.Ytiabmbkmahlhkaa
open Go.ChangeShapes Go.WideShapes Go.ChangeAt Go.RowKit Go.Deep

theorem array_six {cs : Array Value} (h : cs.size = 6) : ∃ a b c d e f, cs = #[a, b, c, d, e, f] := by
  obtain ⟨l⟩ := cs
  match l, h with
  | [a, b, c, d, e, f], _ => exact ⟨a, b, c, d, e, f, rfl⟩
theorem array_ten {cs : Array Value} (h : cs.size = 10) : ∃ a b c d e f g i j k, cs = #[a, b, c, d, e, f, g, i, j, k] := by
  obtain ⟨l⟩ := cs
  match l, h with
  | [a, b, c, d, e, f, g, i, j, k], _ => exact ⟨a, b, c, d, e, f, g, i, j, k, rfl⟩

/-- Six numbers as a function. -/
def fn6 (a b c d e f : Int) (k : Nat) : Int := if k = 0 then a else if k = 1 then b else if k = 2 then c else if k = 3 then d else if k = 4 then e else f

theorem open_six {H : Type} {enc : TypeId × Value → H} {W : World} {v : Value} {d : DataW H} {p : List MemPlace} {base : Nat} (hv : Value.okWide Try.prog W .any base 27 v) (_h : DataW.Trod enc Try.prog W 0 (fun _ => true) true 27 v d p) :
    ∃ U : Nat → Int, v = .agg (six U) := by
  obtain ⟨cs, rfl, hs, hc⟩ := agg_cells (by kernel_rfl) hv (ts := [3, 3, 3, 3, 3, 3]) (by kernel_rfl)
  rw [show Try.prog.cellsOf 27 = 6 by kernel_rfl] at hs
  obtain ⟨a, b, c, d, e, f, rfl⟩ := array_six hs
  obtain ⟨a, rfl, _⟩ := cell_int Try.underlying3 (hc 0 _ _ rfl rfl)
  obtain ⟨b, rfl, _⟩ := cell_int Try.underlying3 (hc 1 _ _ rfl rfl)
  obtain ⟨c, rfl, _⟩ := cell_int Try.underlying3 (hc 2 _ _ rfl rfl)
  obtain ⟨d, rfl, _⟩ := cell_int Try.underlying3 (hc 3 _ _ rfl rfl)
  obtain ⟨e, rfl, _⟩ := cell_int Try.underlying3 (hc 4 _ _ rfl rfl)
  obtain ⟨f, rfl, _⟩ := cell_int Try.underlying3 (hc 5 _ _ rfl rfl)
  exact ⟨fn6 a b c d e f, rfl⟩

theorem open_conf {H : Type} {enc : TypeId × Value → H} {W : World} {v : Value} {x : DataW H} {p : List MemPlace} {base : Nat} (hv : Value.okWide Try.prog W .any base 25 v) (_h : DataW.Trod enc Try.prog W 0 (fun _ => true) true 25 v x p) :
    ∃ (d t : Int) (s : Nat → Int) (bk rm : Int) (kf bf : Nat), v = .agg (confC d t s bk rm kf bf) ∧ (∀ k, k < 4 → -9223372036854775808 ≤ s k) := by
  obtain ⟨cs, rfl, hs, hc⟩ := agg_cells (by kernel_rfl) hv (ts := [3, 3, 3, 3, 3, 3, 3, 3, 23, 23]) (by kernel_rfl)
  rw [show Try.prog.cellsOf 25 = 10 by kernel_rfl] at hs
  obtain ⟨a, b, c, d, e, f, g, i, j, k, rfl⟩ := array_ten hs
  obtain ⟨a, rfl, _⟩ := cell_int Try.underlying3 (hc 0 _ _ rfl rfl)
  obtain ⟨b, rfl, _⟩ := cell_int Try.underlying3 (hc 1 _ _ rfl rfl)
  obtain ⟨c, rfl, h2, _⟩ := cell_int Try.underlying3 (hc 2 _ _ rfl rfl)
  obtain ⟨d, rfl, h3, _⟩ := cell_int Try.underlying3 (hc 3 _ _ rfl rfl)
  obtain ⟨e, rfl, h4, _⟩ := cell_int Try.underlying3 (hc 4 _ _ rfl rfl)
  obtain ⟨f, rfl, h5, _⟩ := cell_int Try.underlying3 (hc 5 _ _ rfl rfl)
  obtain ⟨g, rfl, _⟩ := cell_int Try.underlying3 (hc 6 _ _ rfl rfl)
  obtain ⟨i, rfl, _⟩ := cell_int Try.underlying3 (hc 7 _ _ rfl rfl)
  obtain ⟨j, rfl⟩ := cell_float Try.underlying23 (hc 8 _ _ rfl rfl)
  obtain ⟨k, rfl⟩ := cell_float Try.underlying23 (hc 9 _ _ rfl rfl)
  refine ⟨a, b, fn6 c d e f 0 0, g, i, j, k, rfl, fun k hk => ?_⟩
  have : k = 0 ∨ k = 1 ∨ k = 2 ∨ k = 3 := by omega
  rcases this with rfl | rfl | rfl | rfl
  · exact h2
  · exact h3
  · exact h4
  · exact h5
end Go.Proofs.Ytiabmbkmahlhkaa
