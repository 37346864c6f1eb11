/-
  What the law keeps of a word that was added: the state of the region with two appends. Over the program's own text.
-/
import Derived.Test.YtiabmbkmahlhkaaPostBackB
import Derived.Test.YtiabmbkmahlhkaaRegion
namespace Go.Proofs.Ytiabmbkmahlhkaa
open Go.RowKit

structure BR (W : World) (bp bu ba bt mb cb base : Nat) (B S : Nat → Int) (C T L : Int) (Us U' : Nat → Int) (cs' : List Int) (D' : Int → Prop) (tails' : Nat → Int) (VA VT : Nat → Value) (A TT : Nat → List Nat) (M k xt x t' xb ub : Nat) (z : Nat × Nat × Value × Value) (l : Nat → Bool) (w : World) : Prop where
  op : w.heap[xb]? = some (.cells #[.int .u8 (xt : Int), .int .u32 (x : Int)] 43 (0, 0))
  un : w.heap[ub]? = some (.cells (six U') 27 (0, 0))
  p : w.heap[bp]? = some (.cells (planC B S C T L) 29 (0, 0))
  u : w.heap[bu]? = some (.cells (six (if l 20 then U' else Us)) 27 (0, 0))
  a : w.heap[ba]? = some (.cells (vals8 (if l 17 then setV VA k z.2.2.1 else VA)) 38 (0, 0))
  t : w.heap[bt]? = some (.cells (vals8 (if l 19 then setV VT k z.2.2.2 else VT)) 40 (0, 0))
  ps : PS B S C mb cb tails' U' cs' D' M w
  ra : Rows8 w base 41 .u32 (if l 8 then setV VA k z.2.2.1 else VA) (if l 8 then setL A k (A k ++ [x]) else A)
  rt : Rows8 w base 3 .i64 (if l 14 then setV VT k z.2.2.2 else VT) (if l 14 then setL TT k (TT k ++ [t']) else TT)
  b1 : l 7 = true → l 8 = false → w.heap[z.1]? = some (.cells #[.int .u32 (x : Int)] 41 (0, 0))
  b2 : l 13 = true → l 14 = false → w.heap[z.2.1]? = some (.cells #[.int .i64 (t' : Int)] 3 (0, 0))
  d17 : l 17 = true → l 8 = true
  d19 : l 19 = true → l 14 = true
  d8 : l 8 = true → l 7 = true ∧ l 4 = true
  d14 : l 14 = true → l 13 = true ∧ l 11 = true
  low : Below W.heap.size W w
  base_ : base ≤ w.heap.size
theorem u32_info : (Try.prog.info? 41).map (fun i => (i.zero, i.size, i.bytes)) = some (some (.int .u32 0), 1, 4) := by kernel_rfl
theorem int_info : (Try.prog.info? 3).map (fun i => (i.zero, i.size, i.bytes)) = some (some (.int .i64 0), 1, 8) := by kernel_rfl
theorem own_snoc {e : TypeId} {k : IntKind} {w : World} {base n : Nat} {v : Value} {l : List Nat} {x : Nat} (h : w.ownsRow base e 1 v n (numC k l ++ [.int k (x : Int)])) (hn : n = l.length + 1) : OwnN e k w base v (l ++ [x]) := by
  unfold OwnN
  rw [List.length_append, numC_append]
  subst hn
  exact h
/-- A row of a base has grown: low blocks, and blocks of another kind, are as they were. -/
theorem grown_mod {e : TypeId} {k : IntKind} {w w' : World} {base : Nat} {v : Value} {l : List Nat} (h : OwnN e k w base v l) (hg : w.grownBy w' v.ownBlock) : Mod (fun b => base ≤ b ∧ ∃ cur, w.heap[b]? = some (.cells cur e (0, 0))) w w' :=
  ⟨hg.os, hg.tape, hg.output, hg.size, fun b hb hs => hg.block b hb fun e => hs (h.blk e.symm)⟩
end Go.Proofs.Ytiabmbkmahlhkaa
