/-
  The reference of layer 8: are two rows of numbers the same, and a copy. Over the program's own text.
-/
import Derived.Test.YtpmhkmakkeckkaaNums
import Derived.BigQuiet
import Derived.Laws.CopyOwn
namespace Go.Proofs.Ytpmhkmakkeckkaa
open Go.RowKit

set_option maxRecDepth 100000 in
theorem open_u8 {H : Type} {enc : TypeId × Value → H} {W : World} {v : Value} {d : DataW H} {p : List MemPlace} {base : Nat} (hv : Value.okWide Try.prog W .any base 46 v) (h : DataW.Trod enc Try.prog W 0 (fun _ => true) true 46 v d p) :
    ∃ ao L cap, v = .slice ao L.length cap ∧ ReadN .u8 W ao L ∧ L.length ≤ cap ∧ cap ≤ maxLen ∧ (ao = none → cap = 0) ∧ ∀ x ∈ L, x < 256 := open_nums (k := .u8) rfl Try.underlying46 Try.underlying5 (by kernel_rfl) hv h
set_option maxRecDepth 100000 in
theorem append_u8 {w W : World} {ops : Array Oper} {rest : List Oper} {o : Oper} {a : Act} {Q : Exit → Act → World → Prop} (hgd : o.guard = none) (s x : Operand) (hop : o.op = .call { callee := .builtin .append, args := #[s, x], argTypes := #[46, 46] })
    (v : Value) (A B : List Nat) (hs : a.eval s = v) (hlow : Below W.heap.size W w) (hown : OwnN 5 .u8 w W.heap.size v A) (oa : Option Addr) (c n : Nat) (hn : B.length = n) (hx : a.eval x = .slice oa n c) (hB : ReadN .u8 w oa B) (h0 : oa = none → c = 0) (hc : n ≤ c) (hl : A.length + n ≤ 1000000)
    (h : ∀ v' w', OwnN 5 .u8 w' W.heap.size v' (A ++ B) ∧ Below W.heap.size W w' → w.grownBy w' v.ownBlock → wpList Try.prog ops Q rest (a.put o.dst v') w') : wpList Try.prog ops Q (o :: rest) a w := by
  obtain ⟨i0, hi, hz0, hz1, hz2⟩ := info_parts info_u8
  exact append_nums hgd s x 46 5 .u8 i0 _ 1 hop Try.underlying46 hi hz0 hz1 hz2 rfl (by decide) v A B hs hlow hown oa c n hn hx hB h0 hc hl h
set_option maxRecDepth 100000 in
theorem size_u8 : (Try.prog.info? 5).map (·.size) = some 1 := by kernel_rfl
set_option maxRecDepth 100000 in
theorem made_u8 (n : Nat) : madeCells (Value.cells (.int .u8 0)) n = (numC .u8 (List.replicate n 0)).toArray := by
  apply Array.ext
  · simp [madeCells, numC, Value.cells]
  · intro i h1 h2
    simp [madeCells, Value.cells, numC]
    try simp [Nat.mod_one]
set_option maxRecDepth 100000 in
theorem make_u8 (n : Nat) (h2 : n ≤ 1000000) (w : World) : (Instr.makeSlice 46 (.int .i64 n) (.int .i64 n)).run Try.prog w = .ok (.slice (some ⟨w.heap.size, 0, none⟩) n n) (w.alloc (.cells (numC .u8 (List.replicate n 0)).toArray 5)) := by
  obtain ⟨i0, hi, hz0, hz1, hz2⟩ := info_parts info_u8
  have := run_make (P := Try.prog) w 46 5 i0 _ Try.underlying46 hi hz0 .i64 .i64 n n (by omega) (by omega) (by rw [hz2]; omega) (by omega)
  rw [this, hz1, made_u8]
  simp

end Go.Proofs.Ytpmhkmakkeckkaa
