/-
  A list of instructions as a program: its closure makes of a run what the words say. Over the program's own text.
-/
import Derived.Test.YtkjimgidlpocbaaStepC
namespace Go.Proofs.Ytkjimgidlpocbaa
open Go.RowKit

/-- A list of instructions in memory, in a block that D allows. -/
structure InsAt (w : World) (D : Nat → Prop) (ao : Option Addr) (len : Nat) (E : Nat → Ins) : Prop where
  cell : ∀ i, i < len → ∃ b off, ao = some ⟨b, off, none⟩ ∧ D b ∧ b < w.heap.size ∧ w.cell? ⟨b, off + i * 3, none⟩ = some (.int .i64 (E i).op) ∧ w.cell? ⟨b, off + i * 3 + 1, none⟩ = some (.int .i64 (E i).a) ∧ w.cell? ⟨b, off + i * 3 + 2, none⟩ = some (.int .u32 (E i).v)
  v_u : ∀ i, U (E i).v

theorem InsAt.of_blocks {w w' : World} {D : Nat → Prop} {ao : Option Addr} {len : Nat} {E : Nat → Ins} (h : InsAt w D ao len E) (hs : w.heap.size ≤ w'.heap.size) (hb : ∀ k, D k → k < w.heap.size → w'.heap[k]? = w.heap[k]?) : InsAt w' D ao len E := by
  refine ⟨fun i hi => ?_, h.v_u⟩
  obtain ⟨b, off, h1, h2, h3, h4, h5, h6⟩ := h.cell i hi
  have e : ∀ o, w'.cell? ⟨b, o, none⟩ = w.cell? ⟨b, o, none⟩ := fun o => World.cell?_of_block (hb b h2 h3)
  exact ⟨b, off, h1, h2, by omega, (e _).trans h4, (e _).trans h5, (e _).trans h6⟩
theorem InsAt.mod {w w' : World} {D : Nat → Prop} {ao : Option Addr} {len : Nat} {E : Nat → Ins} (h : InsAt w D ao len E) {S : Nat → Prop} (hm : Mod S w w') (hS : ∀ k, D k → ¬ S k) : InsAt w' D ao len E :=
  h.of_blocks hm.size fun k hk hl => hm.block k hl (hS k hk)
theorem InsAt.below {w w' : World} {D : Nat → Prop} {ao : Option Addr} {len : Nat} {E : Nat → Ins} (h : InsAt w D ao len E) (hm : Below w.heap.size w w') : InsAt w' D ao len E :=
  h.of_blocks hm.size fun k _ hl => hm.block k hl

/-- Where the loop of a program's closure stands. -/
def ProgRel (rb mb cb : Nat) (w : World) (go : Option Nat) (E : Nat → Ins) (len B : Nat) (st0 : St) (last i : Value) (wr : World) : Prop :=
  ∃ (i' : Nat) (last' : Int) (st' : St) (go' : Option Nat), i' ≤ len ∧ i = .int .i64 i' ∧ last = .int .u32 last' ∧ U last' ∧ progN E (len - i') i' last' st' = progN E len 0 0 st0 ∧ st'.Ok B ∧ RM wr rb mb cb go' true st' ∧ Adv rb mb cb w go wr go'

end Go.Proofs.Ytkjimgidlpocbaa
