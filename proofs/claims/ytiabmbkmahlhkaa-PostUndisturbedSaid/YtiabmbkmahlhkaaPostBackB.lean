/-
  A walk from a tail reads just what was added up to it, the newest first; also from tails of long ago: what holds between its rounds. Over the program's own text.
-/
import Derived.Test.YtiabmbkmahlhkaaPostBackA
import Derived.Test.YtiabmbkmahlhkaaPostUndWalk
namespace Go.Proofs.Ytiabmbkmahlhkaa
open Go.RowKit

/-- Where all lies between the rounds of the first loop. -/
structure BK (W : World) (bp bu ba bt mb cb base : Nat) (B S : Nat → Int) (C T L : Int) (Us : Nat → Int) (cs : List Int) (D : Int → Prop) (tails : Nat → Int) (VA VT : Nat → Value) (A TT : Nat → List Nat) (M N : Nat) (w : World) : Prop where
  p : w.heap[bp]? = some (.cells (planC B S C T L) 29 (0, 0))
  u : w.heap[bu]? = some (.cells (six Us) 27 (0, 0))
  a : w.heap[ba]? = some (.cells (vals8 VA) 38 (0, 0))
  t : w.heap[bt]? = some (.cells (vals8 VT) 40 (0, 0))
  ps : PS B S C mb cb tails Us cs D M w
  ra : Rows8 w base 41 .u32 VA A
  rt : Rows8 w base 3 .i64 VT TT
  li : Lists B S cs D tails A TT N
  low : Below W.heap.size W w
  base_ : base ≤ w.heap.size
/-- The blocks are the law's own. -/
def BKO (W : World) (bp bu ba bt mb cb base : Nat) : Prop := W.heap.size ≤ bp ∧ W.heap.size ≤ bu ∧ W.heap.size ≤ ba ∧ W.heap.size ≤ bt ∧ W.heap.size ≤ mb ∧ W.heap.size ≤ cb ∧ bp < base ∧ bu < base ∧ ba < base ∧ bt < base ∧ mb < base ∧ cb < base
section
variable {W : World} {bp bu ba bt mb cb base : Nat} {B S : Nat → Int} {C T L : Int} {Us : Nat → Int} {cs : List Int} {D : Int → Prop} {tails : Nat → Int} {VA VT : Nat → Value} {A TT : Nat → List Nat} {M N : Nat} {w w' : World}
theorem BK.below (h : BK W bp bu ba bt mb cb base B S C T L Us cs D tails VA VT A TT M N w) (hb : Below w.heap.size w w') : BK W bp bu ba bt mb cb base B S C T L Us cs D tails VA VT A TT M N w' :=
  ⟨(hb.block _ (lt_of_heap h.p)).trans h.p, (hb.block _ (lt_of_heap h.u)).trans h.u, (hb.block _ (lt_of_heap h.a)).trans h.a, (hb.block _ (lt_of_heap h.t)).trans h.t, h.ps.below hb, h.ra.keep fun g _ _ hc => hb.block g (lt_of_heap hc), h.rt.keep fun g _ _ hc => hb.block g (lt_of_heap hc), h.li, low_more h.low hb, Nat.le_trans h.base_ hb.size⟩
end
end Go.Proofs.Ytiabmbkmahlhkaa
