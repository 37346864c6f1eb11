/-
  Words on worlds that all layers share: what has turned, what a block holds. Nothing of one layer stands here.
-/
import Derived.Test.YthkpaelpnofbgaaGreatDoorProg
import Derived.WalkKit
import Derived.IntWalk
import Derived.Deep.QuietTactic
import Derived.BigQuiet
import Derived.Lib.Hide
import Derived.RegionTactic
import Derived.ChangeAlike
import Derived.StillTailTactics
import Derived.Deep.CutBlock
import Derived.Deep.DeepCutAuto
import Derived.Deep.RegionWith
import Derived.Laws.Rows
import Derived.Laws.RangeAny
import Derived.Laws.Runes
namespace Go.Proofs.YthkpaelpnofbgaaGreatDoor
open Go.RowKit

/-- Of what was there only the blocks in S have turned; new ones may have come. -/
structure Mod (S : Nat → Prop) (w w' : World) : Prop where
  os : w'.os = w.os
  tape : w'.tape = w.tape
  output : w'.output = w.output
  size : w.heap.size ≤ w'.heap.size
  block : ∀ k, k < w.heap.size → ¬ S k → w'.heap[k]? = w.heap[k]?

set_option maxRecDepth 100000 in
theorem Mod.refl (S : Nat → Prop) (w : World) : Mod S w w := ⟨rfl, rfl, rfl, Nat.le_refl _, fun _ _ _ => rfl⟩
set_option maxRecDepth 100000 in
theorem Mod.trans {S : Nat → Prop} {a b c : World} (h : Mod S a b) (k : Mod S b c) : Mod S a c :=
  ⟨k.os.trans h.os, k.tape.trans h.tape, k.output.trans h.output, Nat.le_trans h.size k.size, fun i hi hs => (k.block i (Nat.lt_of_lt_of_le hi h.size) hs).trans (h.block i hi hs)⟩
set_option maxRecDepth 100000 in
theorem Mod.mono {S T : Nat → Prop} {a b : World} (h : Mod S a b) (hst : ∀ k, k < a.heap.size → S k → T k) : Mod T a b := ⟨h.os, h.tape, h.output, h.size, fun i hi ht => h.block i hi fun hs => ht (hst i hi hs)⟩
set_option maxRecDepth 100000 in
theorem Mod.setCell {S : Nat → Prop} {a w : World} (h : Mod S a w) {p : Addr} (hp : a.heap.size ≤ p.block ∨ S p.block) (u : Value) : Mod S a (w.setCell p u) :=
  ⟨h.os, h.tape, h.output, by simpa [World.setCell] using h.size, fun k hk hs => by
    rw [Below.heap_setCell _ _ _ _ (by rintro rfl; rcases hp with hp | hp; · omega
                                       · exact hs hp)]
    exact h.block k hk hs⟩
set_option maxRecDepth 100000 in
theorem Mod.alloc {S : Nat → Prop} {a w : World} (h : Mod S a w) (o : Obj) : Mod S a (w.alloc o) :=
  ⟨h.os, h.tape, h.output, by have := h.size; simp; omega, fun k hk hs => by rw [Below.heap_alloc _ _ _ (by have := h.size; omega)]; exact h.block k hk hs⟩
set_option maxRecDepth 100000 in
theorem Mod.drew {S : Nat → Prop} {a w : World} (h : Mod S a w) : Mod S a w.drew := ⟨h.os, h.tape, h.output, h.size, h.block⟩
set_option maxRecDepth 100000 in
theorem Mod.drewN {S : Nat → Prop} {a w : World} (h : Mod S a w) (n : Nat) : Mod S a (w.drewN n) := ⟨h.os, h.tape, h.output, h.size, h.block⟩
set_option maxRecDepth 100000 in
theorem below_drawn {B : Nat} {a w : World} (h : Below B a w) (n : Nat) : Below B a (w.drewN n) := ⟨h.os, h.tape, h.output, h.size, h.block⟩
set_option maxRecDepth 100000 in
/-- Where all that may turn lies from B on, all below B stands. -/
theorem Mod.below {S : Nat → Prop} {a b : World} (h : Mod S a b) {B : Nat} (hB : B ≤ a.heap.size) (hS : ∀ k, k < B → ¬ S k) : Below B a b := ⟨h.os, h.tape, h.output, h.size, fun k hk => h.block k (by omega) (hS k hk)⟩
set_option maxRecDepth 100000 in
theorem Below.mod {a b : World} {B : Nat} (h : Below B a b) (S : Nat → Prop) (hS : ∀ k, k < a.heap.size → B ≤ k → S k) : Mod S a b := ⟨h.os, h.tape, h.output, h.size, fun k hk hs => h.block k (by
  by_cases e : k < B
  · exact e
  · exact absurd (hS k hk (by omega)) hs)⟩

set_option maxRecDepth 100000 in
/-- A block of cells, none frozen: its cells read. -/
theorem cell_at {w : World} {b : Nat} {cs : Array Value} {t : TypeId} (h : w.heap[b]? = some (.cells cs t (0, 0))) (i : Nat) : w.cell? ⟨b, i, none⟩ = cs[i]? := by simp [World.cell?, h]
set_option maxRecDepth 100000 in
theorem free_at {w : World} {b : Nat} {cs : Array Value} {t : TypeId} (h : w.heap[b]? = some (.cells cs t (0, 0))) (i : Nat) : w.frozen? ⟨b, i, none⟩ = false := by simp [World.frozen?, h]
set_option maxRecDepth 100000 in
theorem lt_of_heap {w : World} {b : Nat} {o : Obj} (h : w.heap[b]? = some o) : b < w.heap.size := by
  obtain ⟨hb, _⟩ := Array.getElem?_eq_some_iff.1 h
  exact hb

set_option maxRecDepth 100000 in
theorem cell_drew {w : World} {a : Addr} {v : Value} (h : w.cell? a = some v) : w.drew.cell? a = some v := h
set_option maxRecDepth 100000 in
theorem below_two {w : World} {A B : Obj} {n : Nat} : Below w.heap.size w (((w.alloc A).alloc B).drewN n) := below_drawn (((Below.refl _ _).alloc (Nat.le_refl _) _).alloc (by simp) _) n
set_option maxRecDepth 100000 in
theorem below_one {w : World} {A : Obj} : Below w.heap.size w (w.alloc A) := (Below.refl _ _).alloc (Nat.le_refl _) _
set_option maxRecDepth 100000 in
theorem bcell {W W1 : World} (hb : Below W.heap.size W W1) : (∀ b o, b < W.heap.size → W1.cell? ⟨b, o, none⟩ = W.cell? ⟨b, o, none⟩) ∧ (∀ b o, b < W.heap.size → W1.frozen? ⟨b, o, none⟩ = W.frozen? ⟨b, o, none⟩) :=
  ⟨fun b o h => hb.cell (p := ⟨b, o, none⟩) h, fun b o h => hb.frozen (p := ⟨b, o, none⟩) h⟩
/-! ### Where new blocks lie -/
set_option maxRecDepth 100000 in
theorem heap2_0 (w : World) (A B : Obj) : ((w.alloc A).alloc B).heap[w.heap.size]? = some A := by rw [Below.heap_alloc _ _ _ (by simp)]; exact heap_alloc_new w A
set_option maxRecDepth 100000 in
theorem heap2_1 (w : World) (A B : Obj) : ((w.alloc A).alloc B).heap[w.heap.size + 1]? = some B := by simpa using heap_alloc_new (w.alloc A) B
set_option maxRecDepth 100000 in
theorem heap3_0 (w : World) (A B C : Obj) : (((w.alloc A).alloc B).alloc C).heap[w.heap.size]? = some A := by rw [Below.heap_alloc _ _ _ (by simp; omega)]; exact heap2_0 w A B
set_option maxRecDepth 100000 in
theorem heap3_1 (w : World) (A B C : Obj) : (((w.alloc A).alloc B).alloc C).heap[w.heap.size + 1]? = some B := by rw [Below.heap_alloc _ _ _ (by simp)]; exact heap2_1 w A B
set_option maxRecDepth 100000 in
theorem heap3_2 (w : World) (A B C : Obj) : (((w.alloc A).alloc B).alloc C).heap[w.heap.size + 1 + 1]? = some C := by simpa using heap_alloc_new ((w.alloc A).alloc B) C
set_option maxRecDepth 100000 in
theorem heap4_0 (w : World) (A B C D : Obj) : ((((w.alloc A).alloc B).alloc C).alloc D).heap[w.heap.size]? = some A := by rw [Below.heap_alloc _ _ _ (by simp; omega)]; exact heap3_0 w A B C
set_option maxRecDepth 100000 in
theorem heap4_1 (w : World) (A B C D : Obj) : ((((w.alloc A).alloc B).alloc C).alloc D).heap[w.heap.size + 1]? = some B := by rw [Below.heap_alloc _ _ _ (by simp)]; exact heap3_1 w A B C
set_option maxRecDepth 100000 in
theorem heap4_2 (w : World) (A B C D : Obj) : ((((w.alloc A).alloc B).alloc C).alloc D).heap[w.heap.size + 1 + 1]? = some C := by rw [Below.heap_alloc _ _ _ (by simp)]; exact heap3_2 w A B C
set_option maxRecDepth 100000 in
theorem heap4_3 (w : World) (A B C D : Obj) : ((((w.alloc A).alloc B).alloc C).alloc D).heap[w.heap.size + 1 + 1 + 1]? = some D := by simpa using heap_alloc_new (((w.alloc A).alloc B).alloc C) D
set_option maxRecDepth 100000 in
theorem below_al2 {w : World} {A B : Obj} : Below w.heap.size w ((w.alloc A).alloc B) := ((Below.refl _ _).alloc (Nat.le_refl _) _).alloc (by simp) _
set_option maxRecDepth 100000 in
theorem below_al3 {w : World} {A B C : Obj} : Below w.heap.size w (((w.alloc A).alloc B).alloc C) := below_al2.alloc (by simp; omega) _
set_option maxRecDepth 100000 in
theorem below_al4 {w : World} {A B C D : Obj} : Below w.heap.size w ((((w.alloc A).alloc B).alloc C).alloc D) := below_al3.alloc (by simp; omega) _
set_option maxRecDepth 100000 in
theorem below_cell {w w' : World} {a : Addr} {v : Value} (h : w.cell? a = some v) (hb : Below w.heap.size w w') : w'.cell? a = some v := by
  rw [World.cell?_of_block (hb.block _ ?_)]
  · exact h
  · unfold World.cell? at h
    rcases Nat.lt_or_ge a.block w.heap.size with h1 | h1
    · exact h1
    · rw [Array.getElem?_eq_none h1] at h
      simp at h
end Go.Proofs.YthkpaelpnofbgaaGreatDoor
/-
  Letters out of bytes and back, without the program's text: the model's own decoding, said of four numbers; there and back; text and runes as lists.
-/
namespace Go.Proofs.YthkpaelpnofbgaaGreatDoor
open Go.RowKit

def okR (x : Nat) : Prop := x < 55296 ∨ (57344 ≤ x ∧ x ≤ 1114111)
instance (x : Nat) : Decidable (okR x) := by unfold okR; exact inferInstance
/-- The rune that four bytes begin with (0 for a byte that is not there), and its length. -/
def dec4 (a b c d : Nat) : Nat × Nat :=
  if a < 128 then (a, 1)
  else if a / 32 = 6 ∧ b / 64 = 2 then (if 128 ≤ a % 32 * 64 + b % 64 then (a % 32 * 64 + b % 64, 2) else (65533, 1))
  else if a / 16 = 14 ∧ b / 64 = 2 ∧ c / 64 = 2 then (if 2048 ≤ a % 16 * 4096 + b % 64 * 64 + c % 64 ∧ okR (a % 16 * 4096 + b % 64 * 64 + c % 64) then (a % 16 * 4096 + b % 64 * 64 + c % 64, 3) else (65533, 1))
  else if a / 8 = 30 ∧ b / 64 = 2 ∧ c / 64 = 2 ∧ d / 64 = 2 then (if 65536 ≤ a % 8 * 262144 + b % 64 * 4096 + c % 64 * 64 + d % 64 ∧ okR (a % 8 * 262144 + b % 64 * 4096 + c % 64 * 64 + d % 64) then (a % 8 * 262144 + b % 64 * 4096 + c % 64 * 64 + d % 64, 4) else (65533, 1))
  else (65533, 1)
/-- A rune's bytes. -/
def encR (r : Nat) : List Nat :=
  if r < 128 then [r] else if r < 2048 then [192 + r / 64, 128 + r % 64] else if r < 65536 then [224 + r / 4096, 128 + r / 64 % 64, 128 + r % 64] else [240 + r / 262144, 128 + r / 4096 % 64, 128 + r / 64 % 64, 128 + r % 64]

set_option maxRecDepth 100000 in
theorem dec4_len (a b c d : Nat) : 1 ≤ (dec4 a b c d).2 ∧ (dec4 a b c d).2 ≤ 4 := by
  unfold dec4
  repeat' split
  all_goals exact ⟨by simp, by simp⟩
set_option maxRecDepth 100000 in
theorem dec4_ok (a b c d : Nat) : okR (dec4 a b c d).1 := by
  unfold dec4
  repeat' split
  all_goals (unfold okR at *; simp only; omega)
set_option maxRecDepth 100000 in
/-- A rune's own bytes are read as it, whatever stands behind. -/
theorem dec4_enc {r : Nat} (h : okR r) (x y z : Nat) : dec4 ((encR r ++ [x, y, z]).getD 0 0) ((encR r ++ [x, y, z]).getD 1 0) ((encR r ++ [x, y, z]).getD 2 0) ((encR r ++ [x, y, z]).getD 3 0) = (r, (encR r).length) := by
  unfold encR
  split
  · rename_i h1; simp [dec4, h1]
  · split
    · simp only [List.cons_append, List.nil_append, List.getD_cons_zero, List.getD_cons_succ, List.length_cons, List.length_nil]
      have h1 : ¬ 192 + r / 64 < 128 := by omega
      have h2 : (192 + r / 64) / 32 = 6 ∧ (128 + r % 64) / 64 = 2 := by omega
      have h3 : (192 + r / 64) % 32 * 64 + (128 + r % 64) % 64 = r := by omega
      have h4 : 128 ≤ r := by omega
      simp only [dec4, h1, if_false, if_pos h2, h3, if_pos h4]
    · split
      · simp only [List.cons_append, List.nil_append, List.getD_cons_zero, List.getD_cons_succ, List.length_cons, List.length_nil]
        have h1 : ¬ 224 + r / 4096 < 128 := by omega
        have h2 : ¬ ((224 + r / 4096) / 32 = 6 ∧ (128 + r / 64 % 64) / 64 = 2) := by omega
        have h2' : (224 + r / 4096) / 16 = 14 ∧ (128 + r / 64 % 64) / 64 = 2 ∧ (128 + r % 64) / 64 = 2 := by omega
        have h3 : (224 + r / 4096) % 16 * 4096 + (128 + r / 64 % 64) % 64 * 64 + (128 + r % 64) % 64 = r := by omega
        have h4 : 2048 ≤ r ∧ okR r := ⟨by omega, h⟩
        simp only [dec4, h1, if_false, if_neg h2, if_pos h2', h3, if_pos h4]
      · simp only [List.cons_append, List.nil_append, List.getD_cons_zero, List.getD_cons_succ, List.length_cons, List.length_nil]
        have hb : r ≤ 1114111 := by unfold okR at h; omega
        have h1 : ¬ 240 + r / 262144 < 128 := by omega
        have h2 : ¬ ((240 + r / 262144) / 32 = 6 ∧ (128 + r / 4096 % 64) / 64 = 2) := by omega
        have h2' : ¬ ((240 + r / 262144) / 16 = 14 ∧ (128 + r / 4096 % 64) / 64 = 2 ∧ (128 + r / 64 % 64) / 64 = 2) := by omega
        have h2'' : (240 + r / 262144) / 8 = 30 ∧ (128 + r / 4096 % 64) / 64 = 2 ∧ (128 + r / 64 % 64) / 64 = 2 ∧ (128 + r % 64) / 64 = 2 := by omega
        have h3 : (240 + r / 262144) % 8 * 262144 + (128 + r / 4096 % 64) % 64 * 4096 + (128 + r / 64 % 64) % 64 * 64 + (128 + r % 64) % 64 = r := by omega
        have h4 : 65536 ≤ r ∧ okR r := ⟨by omega, h⟩
        simp only [dec4, h1, if_false, if_neg h2, if_neg h2', if_pos h2'', h3, if_pos h4]
set_option maxRecDepth 100000 in
/-- What is read as a rune, not for want of one, is its bytes. -/
theorem enc_dec4 {a b c d r k : Nat} (ha : a < 256) (h : dec4 a b c d = (r, k)) (hr : r ≠ 65533) : encR r = [a, b, c, d].take k := by
  unfold dec4 at h
  split at h
  · simp only [Prod.mk.injEq] at h
    obtain ⟨rfl, rfl⟩ := h
    simp [encR, *]
  · split at h
    · split at h
      · simp only [Prod.mk.injEq] at h
        obtain ⟨h1, rfl⟩ := h
        have e1 : ¬ r < 128 := by omega
        have e2 : r < 2048 := by omega
        have e3 : 192 + r / 64 = a := by omega
        have e4 : 128 + r % 64 = b := by omega
        simp [encR, e1, e2, e3, e4]
      · simp only [Prod.mk.injEq] at h; omega
    · split at h
      · split at h
        · simp only [Prod.mk.injEq] at h
          obtain ⟨h1, rfl⟩ := h
          have e1 : ¬ r < 128 := by omega
          have e2 : ¬ r < 2048 := by omega
          have e2' : r < 65536 := by omega
          have e3 : 224 + r / 4096 = a := by omega
          have e4 : 128 + r / 64 % 64 = b := by omega
          have e5 : 128 + r % 64 = c := by omega
          simp [encR, e1, e2, e2', e3, e4, e5]
        · simp only [Prod.mk.injEq] at h; omega
      · split at h
        · split at h
          · simp only [Prod.mk.injEq] at h
            obtain ⟨h1, rfl⟩ := h
            have e1 : ¬ r < 128 := by omega
            have e2 : ¬ r < 2048 := by omega
            have e2' : ¬ r < 65536 := by omega
            have e3 : 240 + r / 262144 = a := by omega
            have e4 : 128 + r / 4096 % 64 = b := by omega
            have e5 : 128 + r / 64 % 64 = c := by omega
            have e6 : 128 + r % 64 = d := by omega
            simp [encR, e1, e2, e2', e3, e4, e5, e6]
          · simp only [Prod.mk.injEq] at h; omega
        · simp only [Prod.mk.injEq] at h; omega
set_option maxRecDepth 100000 in
/-- No more is read than what there is, where what is not there is 0. -/
theorem dec4_in (a b c d : Nat) : (2 ≤ (dec4 a b c d).2 → b ≠ 0) ∧ (3 ≤ (dec4 a b c d).2 → c ≠ 0) ∧ (4 ≤ (dec4 a b c d).2 → d ≠ 0) := by
  unfold dec4
  repeat' split
  all_goals exact ⟨fun h => by simp at h; try omega, fun h => by simp at h; try omega, fun h => by simp at h; try omega⟩
set_option maxRecDepth 100000 in
/-- Behind a byte below 128 nothing is asked. -/
theorem dec4_cut (a b c d : Nat) : (b < 128 → dec4 a b c d = dec4 a 0 0 0) ∧ (c < 128 → dec4 a b c d = dec4 a b 0 0) ∧ (d < 128 → dec4 a b c d = dec4 a b c 0) := by
  refine ⟨fun h => ?_, fun h => ?_, fun h => ?_⟩
  · have h2 : ¬ b / 64 = 2 := by omega
    simp [dec4, h2]
  · have h2 : ¬ c / 64 = 2 := by omega
    simp [dec4, h2]
  · have h2 : ¬ d / 64 = 2 := by omega
    simp [dec4, h2]

/-! ### Texts -/
/-- Byte i of a text, 0 where there is none. -/
def byteAt (s : ByteArray) (i : Nat) : Nat := (s.data.toList.getD i 0).toNat
set_option maxRecDepth 100000 in
theorem byteAt_lt (s : ByteArray) (i : Nat) : byteAt s i < 256 := (s.data.toList.getD i 0).toNat_lt
set_option maxRecDepth 100000 in
theorem get_byte (s : ByteArray) (i : Nat) : (s.get! i).toNat = byteAt s i := by
  unfold byteAt
  congr 1
  simp [ByteArray.get!, getElem!_def, Array.getElem?_toList, List.getD_eq_getElem?_getD]
  cases h : s.data[i]? <;> simp <;> rfl
set_option maxRecDepth 100000 in
theorem byteAt_out {s : ByteArray} {i : Nat} (h : s.size ≤ i) : byteAt s i = 0 := by
  unfold byteAt
  have : s.data.toList.length ≤ i := by simpa using h
  simp [List.getD_eq_getElem?_getD, List.getElem?_eq_none this]
def decAt (s : ByteArray) (i : Nat) : Nat × Nat := dec4 (byteAt s i) (byteAt s (i + 1)) (byteAt s (i + 2)) (byteAt s (i + 3))
set_option maxRecDepth 100000 in
theorem valid_okR (c : Nat) : Utf8.valid (c : Int) = decide (okR c) := by
  rw [Bool.eq_iff_iff, decide_eq_true_iff]
  unfold okR
  simp only [Utf8.valid, Bool.or_eq_true, Bool.and_eq_true, decide_eq_true_eq]
  omega
set_option maxRecDepth 100000 in
/-- The model's decoding, said of four bytes. -/
theorem decode_eq (s : ByteArray) (i : Nat) : Utf8.decode s i = decAt s i := by
  have hc : ∀ k, (i + k < s.size ∧ byteAt s (i + k) / 64 = 2) ↔ byteAt s (i + k) / 64 = 2 := by
    intro k
    refine ⟨fun h => h.2, fun h => ⟨?_, h⟩⟩
    by_cases hk : i + k < s.size
    · exact hk
    · rw [byteAt_out (by omega)] at h; omega
  simp only [Utf8.decode, get_byte, Nat.add_zero, valid_okR, Bool.and_eq_true, beq_iff_eq, decide_eq_true_eq, hc, and_assoc, ge_iff_le, Utf8.runeError]
  rfl
end Go.Proofs.YthkpaelpnofbgaaGreatDoor
/-
  A text's runes and runes' text, as lists of numbers, without the program's text: there and back, byte by byte, how many.
-/
namespace Go.Proofs.YthkpaelpnofbgaaGreatDoor
open Go.RowKit

/-- The rune that a list of bytes begins with, and its length. -/
def decL (L : List Nat) : Nat × Nat := dec4 (L.getD 0 0) (L.getD 1 0) (L.getD 2 0) (L.getD 3 0)
def runesN : Nat → List Nat → List Nat
  | 0, _ => []
  | n + 1, L => if L = [] then [] else (decL L).1 :: runesN n (L.drop (decL L).2)
/-- A text's runes. -/
def runesL (L : List Nat) : List Nat := runesN L.length L
/-- Runes' bytes. -/
def textL (l : List Nat) : List Nat := l.flatMap encR

set_option maxRecDepth 100000 in
theorem decL_len (L : List Nat) : 1 ≤ (decL L).2 ∧ (decL L).2 ≤ 4 := dec4_len _ _ _ _
set_option maxRecDepth 100000 in
theorem decL_in (L : List Nat) (h : L ≠ []) : (decL L).2 ≤ L.length := by
  obtain ⟨h1, h2, h3⟩ := dec4_in (L.getD 0 0) (L.getD 1 0) (L.getD 2 0) (L.getD 3 0)
  have h4 := (decL_len L).2
  have h0 : L.length ≠ 0 := by simpa using h
  have g : ∀ i, L.length ≤ i → L.getD i 0 = 0 := fun i hi => by simp [List.getD_eq_getElem?_getD, List.getElem?_eq_none hi]
  change (2 ≤ (decL L).2 → _) at h1
  change (3 ≤ (decL L).2 → _) at h2
  change (4 ≤ (decL L).2 → _) at h3
  by_cases e : (decL L).2 ≤ L.length
  · exact e
  · by_cases e1 : L.length ≤ 1
    · exact absurd (g 1 e1) (h1 (by omega))
    · by_cases e2 : L.length ≤ 2
      · exact absurd (g 2 e2) (h2 (by omega))
      · exact absurd (g 3 (by omega)) (h3 (by omega))
set_option maxRecDepth 100000 in
theorem runesN_enough : ∀ (n m : Nat) (L : List Nat), L.length ≤ n → L.length ≤ m → runesN n L = runesN m L
  | 0, m, L, h, _ => by
    obtain rfl := List.eq_nil_of_length_eq_zero (show L.length = 0 by omega)
    cases m <;> simp [runesN]
  | n + 1, 0, L, _, h => by
    obtain rfl := List.eq_nil_of_length_eq_zero (show L.length = 0 by omega)
    simp [runesN]
  | n + 1, m + 1, L, h1, h2 => by
    unfold runesN
    split
    · rfl
    · have := (decL_len L).1
      rw [runesN_enough n m _ (by simp; omega) (by simp; omega)]
set_option maxRecDepth 100000 in
theorem runesL_nil : runesL [] = [] := rfl
set_option maxRecDepth 100000 in
theorem runesL_step {L : List Nat} (h : L ≠ []) : runesL L = (decL L).1 :: runesL (L.drop (decL L).2) := by
  have h1 := (decL_len L).1
  have h2 : L.length ≠ 0 := by simpa using h
  obtain ⟨n, hn⟩ : ∃ n, L.length = n + 1 := ⟨L.length - 1, by omega⟩
  unfold runesL
  rw [hn]
  conv => lhs; unfold runesN
  rw [if_neg h, runesN_enough n _ _ (by simp; omega) (Nat.le_refl _)]
set_option maxRecDepth 100000 in
/-- By the list's length. -/
theorem runes_ind {P : List Nat → Prop} (h0 : P []) (h1 : ∀ L, L ≠ [] → P (L.drop (decL L).2) → P L) : ∀ L, P L := by
  intro L
  generalize hn : L.length = n
  induction n using Nat.strongRecOn generalizing L with
  | _ n ih =>
    by_cases h : L = []
    · rw [h]; exact h0
    · have := (decL_len L).1
      have h2 : L.length ≠ 0 := by simpa using h
      exact h1 L h (ih (L.drop (decL L).2).length (by simp; omega) _ rfl)
set_option maxRecDepth 100000 in
theorem runesL_ok (L : List Nat) : ∀ r ∈ runesL L, okR r := by
  induction L using runes_ind with
  | h0 => simp [runesL_nil]
  | h1 L h ih =>
    rw [runesL_step h]
    intro r hr
    rcases List.mem_cons.1 hr with rfl | hr
    · exact dec4_ok _ _ _ _
    · exact ih r hr
set_option maxRecDepth 100000 in
theorem runesL_many (L : List Nat) : (runesL L).length ≤ L.length ∧ L.length ≤ 4 * (runesL L).length := by
  induction L using runes_ind with
  | h0 => simp [runesL_nil]
  | h1 L h ih =>
    rw [runesL_step h]
    have h1 := decL_len L
    have h2 := decL_in L h
    simp only [List.length_drop, List.length_cons] at ih ⊢
    omega
set_option maxRecDepth 100000 in
theorem encR_len (r : Nat) : 1 ≤ (encR r).length ∧ (encR r).length ≤ 4 := by
  unfold encR
  repeat' split
  all_goals simp
set_option maxRecDepth 100000 in
theorem decL_enc {r : Nat} (h : okR r) (L : List Nat) : decL (encR r ++ L) = (r, (encR r).length) := by
  rw [← dec4_enc h (L.getD 0 0) (L.getD 1 0) (L.getD 2 0)]
  unfold decL
  have key : ∀ i, i < 4 → (encR r ++ L).getD i 0 = (encR r ++ [L.getD 0 0, L.getD 1 0, L.getD 2 0]).getD i 0 := by
    intro i hi
    have h1 := encR_len r
    simp only [List.getD_eq_getElem?_getD]
    by_cases e : i < (encR r).length
    · rw [List.getElem?_append_left e, List.getElem?_append_left e]
    · rw [List.getElem?_append_right (by omega), List.getElem?_append_right (by omega)]
      obtain ⟨j, hj⟩ : ∃ j, j = i - (encR r).length := ⟨_, rfl⟩
      rw [← hj]
      have : j < 3 := by omega
      match j, this with
      | 0, _ => simp
      | 1, _ => simp
      | 2, _ => simp
  rw [key 0 (by omega), key 1 (by omega), key 2 (by omega), key 3 (by omega)]
set_option maxRecDepth 100000 in
theorem runesL_enc {r : Nat} (h : okR r) (L : List Nat) : runesL (encR r ++ L) = r :: runesL L := by
  have h1 := encR_len r
  have hne : encR r ++ L ≠ [] := by
    intro e
    have := congrArg List.length e
    simp only [List.length_append, List.length_nil] at this
    omega
  rw [runesL_step hne, decL_enc h]
  simp
set_option maxRecDepth 100000 in
/-- Runes of runes' text are they. -/
theorem runes_text (l : List Nat) (h : ∀ r ∈ l, okR r) (L : List Nat) : runesL (textL l ++ L) = l ++ runesL L := by
  induction l with
  | nil => simp [textL]
  | cons r l ih =>
    have e : textL (r :: l) = encR r ++ textL l := by simp [textL]
    rw [e, List.append_assoc, runesL_enc (h r (by simp)), ih fun x hx => h x (by simp [hx])]
    rfl
set_option maxRecDepth 100000 in
/-- A text of nothing but runes' bytes is its runes' text. -/
theorem text_runes (L : List Nat) (hb : ∀ b ∈ L, b < 256) (h : ∀ r ∈ runesL L, r ≠ 65533) : textL (runesL L) = L := by
  induction L using runes_ind with
  | h0 => simp [runesL_nil, textL]
  | h1 L hne ih =>
    rw [runesL_step hne] at h ⊢
    have e : textL ((decL L).1 :: runesL (L.drop (decL L).2)) = encR (decL L).1 ++ textL (runesL (L.drop (decL L).2)) := by simp [textL]
    rw [e, ih (fun b hb' => hb b (List.mem_of_mem_drop hb')) (fun r hr => h r (by simp [hr]))]
    have ha : L.getD 0 0 < 256 := by
      cases L with
      | nil => exact absurd rfl hne
      | cons a t => exact hb a (by simp)
    rw [enc_dec4 (r := (decL L).1) (k := (decL L).2) ha rfl (h _ (by simp))]
    have hin := decL_in L hne
    have h4 := (decL_len L).2
    have ht : [L.getD 0 0, L.getD 1 0, L.getD 2 0, L.getD 3 0].take (decL L).2 = L.take (decL L).2 := by
      apply List.ext_getElem?
      intro i
      simp only [List.getElem?_take]
      split
      · rename_i hi
        have : i < 4 := by omega
        rw [List.getElem?_eq_getElem (show i < L.length by omega)]
        match i, this with
        | 0, _ => simp [List.getD_eq_getElem?_getD, List.getElem?_eq_getElem (show 0 < L.length by omega)]
        | 1, _ => simp [List.getD_eq_getElem?_getD, List.getElem?_eq_getElem (show 1 < L.length by omega)]
        | 2, _ => simp [List.getD_eq_getElem?_getD, List.getElem?_eq_getElem (show 2 < L.length by omega)]
        | 3, _ => simp [List.getD_eq_getElem?_getD, List.getElem?_eq_getElem (show 3 < L.length by omega)]
      · rfl
    rw [ht, List.take_append_drop]
set_option maxRecDepth 100000 in
theorem decL_cut (A : List Nat) (c : Nat) (B : List Nat) (hc : c < 128) (hA : A ≠ []) : decL (A ++ c :: B) = decL A := by
  unfold decL
  match A, hA with
  | [a], _ =>
    simp only [List.cons_append, List.nil_append, List.getD_cons_zero, List.getD_cons_succ, List.getD_nil]
    exact (dec4_cut a c _ _).1 hc
  | [a, b], _ =>
    simp only [List.cons_append, List.nil_append, List.getD_cons_zero, List.getD_cons_succ, List.getD_nil]
    exact (dec4_cut a b c _).2.1 hc
  | [a, b, d], _ =>
    simp only [List.cons_append, List.nil_append, List.getD_cons_zero, List.getD_cons_succ, List.getD_nil]
    exact (dec4_cut a b d c).2.2 hc
  | a :: b :: d :: e :: t, _ => simp
set_option maxRecDepth 100000 in
/-- Behind a letter below 128 all is read as if nothing had stood ahead of it. -/
theorem runes_apart (c : Nat) (B : List Nat) (hc : c < 128) (A : List Nat) : runesL (A ++ c :: B) = runesL A ++ c :: runesL B := by
  induction A using runes_ind with
  | h0 =>
    have h1 : decL (c :: B) = (c, 1) := by simp [decL, dec4, hc]
    rw [List.nil_append, runesL_nil, List.nil_append, runesL_step (by simp), h1]
    simp
  | h1 A hA ih =>
    rw [runesL_step (show A ++ c :: B ≠ [] by simp), runesL_step hA, decL_cut A c B hc hA, List.drop_append_of_le_length (decL_in A hA), ih]
    rfl
end Go.Proofs.YthkpaelpnofbgaaGreatDoor
/-
  A call's results where one of them lies in memory whole. Over any program.
-/
namespace Go.Proofs.YthkpaelpnofbgaaGreatDoor
open Go.RowKit
section
variable {P : Program}
set_option maxRecDepth 100000 in
theorem results_cell_tmp {fn : Func} {p q : Tmp} {ty : TypeId} (h : fn.results = #[.cell p ty, .tmp q]) (tmps : Array Value) (w : World) (g : Nat) (t : TypeId) (cs : Array Value) (fr : Nat × Nat) (d : TypeDesc) (v : Value)
    (hp : tmps.getD p undef = .pointer (some ⟨g, 0, none⟩)) (hq : tmps.getD q undef = v) (hg : w.heap[g]? = some (.cells cs t fr))
    (hu : P.underlying ty = some d) (hd : (match d with | .struct _ | .array _ _ => true | _ => false) = true) (hi : (P.info? ty).map (·.size) = some cs.size) :
    (results fn tmps).run P w = .ok (.tuple #[.agg cs, v]) w := by
  have hp' : tmps[p]?.getD undef = .pointer (some ⟨g, 0, none⟩) := by simpa using hp
  have hq' : tmps[q]?.getD undef = v := by simpa using hq
  simp [results, h, hp', hq', asAddr, run_loadVar_row w g t ty cs fr d hg hu hd hi]
set_option maxRecDepth 100000 in
theorem results_tmp_cell_tmp {fn : Func} {p q r : Tmp} {ty : TypeId} (h : fn.results = #[.tmp r, .cell p ty, .tmp q]) (tmps : Array Value) (w : World) (g : Nat) (t : TypeId) (cs : Array Value) (fr : Nat × Nat) (d : TypeDesc) (u v : Value)
    (hr : tmps.getD r undef = u) (hp : tmps.getD p undef = .pointer (some ⟨g, 0, none⟩)) (hq : tmps.getD q undef = v) (hg : w.heap[g]? = some (.cells cs t fr))
    (hu : P.underlying ty = some d) (hd : (match d with | .struct _ | .array _ _ => true | _ => false) = true) (hi : (P.info? ty).map (·.size) = some cs.size) :
    (results fn tmps).run P w = .ok (.tuple #[u, .agg cs, v]) w := by
  have hp' : tmps[p]?.getD undef = .pointer (some ⟨g, 0, none⟩) := by simpa using hp
  have hq' : tmps[q]?.getD undef = v := by simpa using hq
  have hr' : tmps[r]?.getD undef = u := by simpa using hr
  simp [results, h, hp', hq', hr', asAddr, run_loadVar_row w g t ty cs fr d hg hu hd hi]
set_option maxRecDepth 100000 in
/-- A whole row read out of memory, by an operation that is guarded and wanted. -/
theorem wpList_load_row_g {ops : Array Oper} {rest : List Oper} {o : Oper} {a : Act} {w : World} {Q : Exit → Act → World → Prop} (hw : Region.wanted o (yielded ops a.tmps) = true) (ty : TypeId) (x : Operand) (ho : o.op = .load ty x)
    (g : Nat) (hx : a.eval x = .pointer (some ⟨g, 0, none⟩)) (t : TypeId) (cs : Array Value) (fr : Nat × Nat) (d : TypeDesc) (hg : w.heap[g]? = some (.cells cs t fr))
    (hu : P.underlying ty = some d) (hd : (match d with | .struct _ | .array _ _ => true | _ => false) = true) (hi : (P.info? ty).map (·.size) = some cs.size)
    (h : wpList P ops Q rest (a.put o.dst (.agg cs)) w) : wpList P ops Q (o :: rest) a w :=
  wpList_step fun K hK => by
    rw [if_pos hw]
    exact wp_load_row ty x ho g hx t cs fr d hg hu hd hi (hK _ _ h)
end
end Go.Proofs.YthkpaelpnofbgaaGreatDoor
/-
  The reference of layer 4: may a rune be, its bytes, the rune at a place. Over the program's own text.
-/
namespace Go.Proofs.YthkpaelpnofbgaaGreatDoor
open Go.RowKit

set_option maxRecDepth 100000 in
theorem may_yes (w : World) (n : Nat) (h : okR n) : Calls Tryz.prog 101 #[.int .i32 n] w fun e w' => e = .returned (.bool true) ∧ w = w' := by
  unfold okR at h
  rcases h with h | ⟨h1, h2⟩
  · have h0 : (n : Int) < 55296 := by omega
    clear h
    go_enter Tryz.func101, Tryz.ntmps101
    go_wp2
    go_ret
    exact ⟨rfl, rfl⟩
  · have h3 : ¬ (n : Int) < 55296 := by omega
    have h4 : (57344 : Int) ≤ (n : Int) := by omega
    have h5 : (n : Int) ≤ 1114111 := by omega
    clear h1 h2
    go_enter Tryz.func101, Tryz.ntmps101
    go_wp2
    go_ret
    exact ⟨rfl, rfl⟩
set_option maxRecDepth 100000 in
theorem may_no (w : World) (r : Int) (h : ¬ (0 ≤ r ∧ okR r.toNat)) : Calls Tryz.prog 101 #[.int .i32 r] w fun e w' => e = .returned (.bool false) ∧ w = w' := by
  have hr : r < 0 ∨ (55296 ≤ r ∧ r < 57344) ∨ 1114111 < r := by unfold okR at h; omega
  clear h
  rcases hr with h | ⟨h, h2⟩ | h
  · have h1 : ¬ 0 ≤ r := by omega
    have h3 : ¬ 57344 ≤ r := by omega
    go_enter Tryz.func101, Tryz.ntmps101
    go_wp2
    go_ret
    exact ⟨rfl, rfl⟩
  · have h1 : 0 ≤ r := by omega
    have h3 : ¬ 57344 ≤ r := by omega
    have h4 : ¬ r < 55296 := by omega
    go_enter Tryz.func101, Tryz.ntmps101
    go_wp2
    go_ret
    exact ⟨rfl, rfl⟩
  · have h1 : 0 ≤ r := by omega
    have h3 : 57344 ≤ r := by omega
    have h4 : ¬ r < 55296 := by omega
    have h5 : ¬ r ≤ 1114111 := by omega
    go_enter Tryz.func101, Tryz.ntmps101
    go_wp2
    go_ret
    exact ⟨rfl, rfl⟩

set_option maxRecDepth 100000 in
set_option maxHeartbeats 1000000 in
theorem bytes_1 (w : World) (r : Int) (hM : ∀ w, Calls Tryz.prog 101 #[.int .i32 r] w fun e w' => e = .returned (.bool true) ∧ w = w') (h0 : 0 ≤ r) (h1 : r < 128) :
    Calls Tryz.prog 83 #[.int .i32 r] w fun e w' => e = .returned (.slice (some ⟨w.heap.size, 0, none⟩) 1 1) ∧ w' = w.alloc (.cells #[.int .u8 (r)] 5) := by
  have HM := Lib.hid hM
  clear hM
  go_enter Tryz.func83, Tryz.ntmps83
  go_wp2_with (go_at_call 101; refine (HM.out _).mono ?_; rintro e w' ⟨rfl, rfl⟩)
  go_ret
  exact ⟨rfl, rfl⟩
set_option maxRecDepth 100000 in
set_option maxHeartbeats 1000000 in
theorem bytes_2 (w : World) (r : Int) (hM : ∀ w, Calls Tryz.prog 101 #[.int .i32 r] w fun e w' => e = .returned (.bool true) ∧ w = w') (h0 : 128 ≤ r) (h1 : r < 2048) :
    Calls Tryz.prog 83 #[.int .i32 r] w fun e w' => e = .returned (.slice (some ⟨w.heap.size, 0, none⟩) 2 2) ∧ w' = w.alloc (.cells #[.int .u8 (192 + r / 64), .int .u8 (128 + r % 64)] 5) := by
  have HM := Lib.hid hM
  clear hM
  have n1 : ¬ r < 128 := by omega
  go_enter Tryz.func83, Tryz.ntmps83
  go_wp2_with (go_at_call 101; refine (HM.out _).mono ?_; rintro e w' ⟨rfl, rfl⟩)
  go_ret
  exact ⟨rfl, rfl⟩
set_option maxRecDepth 100000 in
set_option maxHeartbeats 1000000 in
theorem bytes_3 (w : World) (r : Int) (hM : ∀ w, Calls Tryz.prog 101 #[.int .i32 r] w fun e w' => e = .returned (.bool true) ∧ w = w') (h0 : 2048 ≤ r) (h1 : r < 65536) :
    Calls Tryz.prog 83 #[.int .i32 r] w fun e w' => e = .returned (.slice (some ⟨w.heap.size, 0, none⟩) 3 3) ∧ w' = w.alloc (.cells #[.int .u8 (224 + r / 4096), .int .u8 (128 + r / 64 % 64), .int .u8 (128 + r % 64)] 5) := by
  have HM := Lib.hid hM
  clear hM
  have n1 : ¬ r < 128 := by omega
  have n2 : ¬ r < 2048 := by omega
  go_enter Tryz.func83, Tryz.ntmps83
  go_wp2_with (go_at_call 101; refine (HM.out _).mono ?_; rintro e w' ⟨rfl, rfl⟩)
  go_ret
  exact ⟨rfl, rfl⟩
set_option maxRecDepth 100000 in
set_option maxHeartbeats 1000000 in
theorem bytes_4 (w : World) (r : Int) (hM : ∀ w, Calls Tryz.prog 101 #[.int .i32 r] w fun e w' => e = .returned (.bool true) ∧ w = w') (h0 : 65536 ≤ r) (h1 : r ≤ 1114111) :
    Calls Tryz.prog 83 #[.int .i32 r] w fun e w' => e = .returned (.slice (some ⟨w.heap.size, 0, none⟩) 4 4) ∧ w' = w.alloc (.cells #[.int .u8 (240 + r / 262144), .int .u8 (128 + r / 4096 % 64), .int .u8 (128 + r / 64 % 64), .int .u8 (128 + r % 64)] 5) := by
  have HM := Lib.hid hM
  clear hM
  have n1 : ¬ r < 128 := by omega
  have n2 : ¬ r < 2048 := by omega
  have n3 : ¬ r < 65536 := by omega
  go_enter Tryz.func83, Tryz.ntmps83
  go_wp2_with (go_at_call 101; refine (HM.out _).mono ?_; rintro e w' ⟨rfl, rfl⟩)
  go_ret
  exact ⟨rfl, rfl⟩
/-- A row of bytes in a block of its own. -/
def BytesAt (w : World) (g : Nat) (l : List Nat) : Prop := w.heap[g]? = some (.cells (l.map fun (b : Nat) => Value.int .u8 (b : Int)).toArray 5 (0, 0))
/-- What a rune is taken for. -/
def normR (r : Int) : Nat := if 0 ≤ r ∧ okR r.toNat then r.toNat else 65533
set_option maxRecDepth 100000 in
theorem normR_ok (r : Int) : okR (normR r) := by
  unfold normR
  split
  · rename_i h; exact h.2
  · exact .inr ⟨by omega, by omega⟩
set_option maxRecDepth 100000 in
theorem normR_self {n : Nat} (h : okR n) : normR (n : Int) = n := by
  unfold normR
  rw [if_pos ⟨by omega, by simpa using h⟩]
  simp
set_option maxRecDepth 100000 in
theorem bytes_ok (w : World) (n : Nat) (h : okR n) : Calls Tryz.prog 83 #[.int .i32 n] w fun e w' => ∃ g, e = .returned (.slice (some ⟨g, 0, none⟩) (encR n).length (encR n).length) ∧ BytesAt w' g (encR n) ∧ Below w.heap.size w w' := by
  have hM := fun w => may_yes w n h
  have hb : n ≤ 1114111 := by unfold okR at h; omega
  have fin : ∀ (m : Nat) (cs : Array Value), m = (encR n).length → ((encR n).map fun (b : Nat) => Value.int .u8 (b : Int)).toArray = cs → ∀ (e : Ending) (w' : World), (e = .returned (.slice (some ⟨w.heap.size, 0, none⟩) m m) ∧ w' = w.alloc (.cells cs 5)) → ∃ g, e = .returned (.slice (some ⟨g, 0, none⟩) (encR n).length (encR n).length) ∧ BytesAt w' g (encR n) ∧ Below w.heap.size w w' := by
    rintro m cs rfl rfl e w' ⟨rfl, rfl⟩
    exact ⟨_, rfl, heap_alloc_new w _, below_one⟩
  by_cases h1 : n < 128
  · exact (bytes_1 w n hM (by omega) (by omega)).mono (fin 1 _ (by simp [encR, h1]) (by simp [encR, h1]))
  · by_cases h2 : n < 2048
    · exact (bytes_2 w n hM (by omega) (by omega)).mono (fin 2 _ (by simp [encR, h1, h2]) (by simp [encR, h1, h2]))
    · by_cases h3 : n < 65536
      · exact (bytes_3 w n hM (by omega) (by omega)).mono (fin 3 _ (by simp [encR, h1, h2, h3]) (by simp [encR, h1, h2, h3]))
      · exact (bytes_4 w n hM (by omega) (by omega)).mono (fin 4 _ (by simp [encR, h1, h2, h3]) (by simp [encR, h1, h2, h3]))
set_option maxRecDepth 100000 in
theorem bytes_bad (w : World) (r : Int) (h : ¬ (0 ≤ r ∧ okR r.toNat)) : Calls Tryz.prog 83 #[.int .i32 r] w fun e w' => ∃ g, e = .returned (.slice (some ⟨g, 0, none⟩) 3 3) ∧ BytesAt w' g (encR 65533) ∧ Below w.heap.size w w' := by
  have HM := Lib.hid (fun w => may_no w r h)
  clear h
  go_enter Tryz.func83, Tryz.ntmps83
  go_wp2_with (go_at_call 101; refine (HM.out _).mono ?_; rintro e w' ⟨rfl, rfl⟩)
  go_ret
  exact ⟨_, rfl, heap_alloc_new w _, below_one⟩
set_option maxRecDepth 100000 in
theorem bytes_any (w : World) (r : Int) : Calls Tryz.prog 83 #[.int .i32 r] w fun e w' => ∃ g, e = .returned (.slice (some ⟨g, 0, none⟩) (encR (normR r)).length (encR (normR r)).length) ∧ BytesAt w' g (encR (normR r)) ∧ Below w.heap.size w w' := by
  by_cases h : 0 ≤ r ∧ okR r.toNat
  · obtain ⟨n, rfl⟩ := Int.eq_ofNat_of_zero_le h.1
    have hn : okR n := by simpa using h.2
    rw [normR_self hn]
    exact bytes_ok w n hn
  · have e : normR r = 65533 := by unfold normR; rw [if_neg h]
    rw [e]
    exact bytes_bad w r h

/-! ### The rune at a place -/
set_option maxRecDepth 100000 in
theorem byte_get {s : ByteArray} {i : Nat} (h : i < s.size) : (s[i]'h).toNat = byteAt s i := by
  unfold byteAt
  congr 1
  have : i < s.data.toList.length := by simpa using h
  rw [List.getD_eq_getElem?_getD, List.getElem?_eq_getElem this]
  rfl
end Go.Proofs.YthkpaelpnofbgaaGreatDoor
/-
  The reference of layer 4: the rune at a place. Over the program's own text.
-/
namespace Go.Proofs.YthkpaelpnofbgaaGreatDoor
open Go.RowKit

/-- What at answers: nothing where no rune's bytes stand. -/
def atR (s : ByteArray) (i : Nat) : Nat × Nat := if decAt s i = (65533, 1) then (0, 0) else decAt s i
/-- What a first byte tells: the number so far, and how many bytes. -/
def Start (b n k : Nat) : Prop := (k = 0 ∧ 128 ≤ b ∧ (b < 192 ∨ 248 ≤ b)) ∨ (k = 2 ∧ 192 ≤ b ∧ b < 224 ∧ n = b - 192) ∨ (k = 3 ∧ 224 ≤ b ∧ b < 240 ∧ n = b - 224) ∨ (k = 4 ∧ 240 ≤ b ∧ b < 248 ∧ n = b - 240)
/-- Behind j bytes. -/
def accU (s : ByteArray) (i n0 : Nat) : Nat → Nat
  | 0 => n0
  | 1 => n0
  | j + 2 => accU s i n0 (j + 1) * 64 + byteAt s (i + (j + 1)) % 64
def Conts (s : ByteArray) (i j : Nat) : Prop := ∀ t, 1 ≤ t → t < j → byteAt s (i + t) / 64 = 2
def Bnd (d n : Nat) : Prop := (d = 0 → n ≤ 2097151) ∧ (d = 1 → n ≤ 32767) ∧ (d = 2 → n ≤ 511) ∧ (d = 3 → n ≤ 7)

set_option maxRecDepth 100000 in
theorem okR_small {x : Nat} (h : x < 2048) : okR x := by unfold okR; omega
set_option maxRecDepth 100000 in
theorem at_none {s : ByteArray} {i n k : Nat} (h : Start (byteAt s i) n k) (hk : k = 0 ∨ s.size < i + k) : atR s i = (0, 0) := by
  unfold atR
  rw [if_pos]
  unfold decAt dec4
  have ho : ∀ j, s.size ≤ j → byteAt s j = 0 := fun j hj => byteAt_out hj
  generalize byteAt s i = b at *
  rcases h with ⟨rfl, h1, h2⟩ | ⟨rfl, h1, h2, _⟩ | ⟨rfl, h1, h2, _⟩ | ⟨rfl, h1, h2, _⟩
  · have e1 : ¬ b < 128 := by omega
    have e2 : ¬ b / 32 = 6 := by omega
    have e3 : ¬ b / 16 = 14 := by omega
    have e4 : ¬ b / 8 = 30 := by omega
    simp [e1, e2, e3, e4]
  · have e1 : ¬ b < 128 := by omega
    have e3 : ¬ b / 16 = 14 := by omega
    have e4 : ¬ b / 8 = 30 := by omega
    simp [e1, e3, e4, ho (i + 1) (by omega)]
  · have e1 : ¬ b < 128 := by omega
    have e2 : ¬ b / 32 = 6 := by omega
    have e4 : ¬ b / 8 = 30 := by omega
    simp [e1, e2, e4, ho (i + 2) (by omega)]
  · have e1 : ¬ b < 128 := by omega
    have e2 : ¬ b / 32 = 6 := by omega
    have e3 : ¬ b / 16 = 14 := by omega
    simp [e1, e2, e3, ho (i + 3) (by omega)]
set_option maxRecDepth 100000 in
theorem at_bad {s : ByteArray} {i n k j : Nat} (h : Start (byteAt s i) n k) (h1 : 1 ≤ j) (hj : j < k) (hc : ¬ byteAt s (i + j) / 64 = 2) : atR s i = (0, 0) := by
  unfold atR
  rw [if_pos]
  unfold decAt dec4
  generalize byteAt s i = b at *
  rcases h with ⟨rfl, _⟩ | ⟨rfl, h1, h2, _⟩ | ⟨rfl, h1, h2, _⟩ | ⟨rfl, h1, h2, _⟩
  · omega
  · obtain rfl : j = 1 := by omega
    have e1 : ¬ b < 128 := by omega
    have e3 : ¬ b / 16 = 14 := by omega
    have e4 : ¬ b / 8 = 30 := by omega
    simp [e1, e3, e4, hc]
  · have e1 : ¬ b < 128 := by omega
    have e2 : ¬ b / 32 = 6 := by omega
    have e4 : ¬ b / 8 = 30 := by omega
    rcases (show j = 1 ∨ j = 2 by omega) with rfl | rfl <;> simp [e1, e2, e4, hc]
  · have e1 : ¬ b < 128 := by omega
    have e2 : ¬ b / 32 = 6 := by omega
    have e3 : ¬ b / 16 = 14 := by omega
    rcases (show j = 1 ∨ j = 2 ∨ j = 3 by omega) with rfl | rfl | rfl <;> simp [e1, e2, e3, hc]
set_option maxRecDepth 100000 in
theorem encR_length (n : Nat) : (encR n).length = if n < 128 then 1 else if n < 2048 then 2 else if n < 65536 then 3 else 4 := by
  unfold encR
  repeat' split
  all_goals rfl
set_option maxRecDepth 100000 in
theorem at_good {s : ByteArray} {i n k : Nat} (h : Start (byteAt s i) n k) (hk : k ≠ 0) (hc : Conts s i k) : atR s i = if okR (accU s i n k) ∧ (encR (accU s i n k)).length = k then (accU s i n k, k) else (0, 0) := by
  unfold atR decAt dec4
  have hb : ∀ j, byteAt s j < 256 := byteAt_lt s
  have hb0 := hb i
  generalize byteAt s i = b at *
  rw [encR_length]
  rcases h with ⟨rfl, _⟩ | ⟨rfl, h1, h2, hn⟩ | ⟨rfl, h1, h2, hn⟩ | ⟨rfl, h1, h2, hn⟩
  · exact absurd rfl hk
  · have c1 := hc 1 (by omega) (by omega)
    have e1 : ¬ b < 128 := by omega
    have e2 : b / 32 = 6 := by omega
    have e3 : b % 32 * 64 + byteAt s (i + 1) % 64 = n * 64 + byteAt s (i + 1) % 64 := by omega
    simp only [accU, Nat.zero_add, e1, e2, c1, and_self, if_true, if_false, e3]
    generalize hx : n * 64 + byteAt s (i + 1) % 64 = x
    have hx2 : x < 2048 := by omega
    by_cases h3 : 128 ≤ x
    · have h4 : ¬ x < 128 := by omega
      have h5 : okR x := okR_small hx2
      simp [h3, h4, h5, hx2]
    · have h4 : x < 128 := by omega
      simp [h3, h4]
  · have c1 := hc 1 (by omega) (by omega)
    have c2 := hc 2 (by omega) (by omega)
    have e1 : ¬ b < 128 := by omega
    have e2 : ¬ b / 32 = 6 := by omega
    have e2' : b / 16 = 14 := by omega
    have e3 : b % 16 * 4096 + byteAt s (i + 1) % 64 * 64 + byteAt s (i + 2) % 64 = (n * 64 + byteAt s (i + 1) % 64) * 64 + byteAt s (i + 2) % 64 := by omega
    simp only [accU, Nat.zero_add, Nat.reduceAdd, e1, e2, e2', c1, c2, and_self, false_and, if_true, if_false, e3]
    generalize hx : (n * 64 + byteAt s (i + 1) % 64) * 64 + byteAt s (i + 2) % 64 = x
    have hx2 : x < 65536 := by omega
    by_cases h3 : 2048 ≤ x ∧ okR x
    · have h4 : ¬ x < 128 := by omega
      have h5 : ¬ x < 2048 := by omega
      simp [h3, h4, h5, hx2]
    · rw [if_neg h3]
      have h4 : ¬ (okR x ∧ (if x < 128 then 1 else if x < 2048 then 2 else if x < 65536 then 3 else 4) = 3) := by
        rintro ⟨h5, h6⟩
        split at h6
        · omega
        · split at h6
          · omega
          · exact h3 ⟨by omega, h5⟩
      rw [if_neg h4]
      simp
  · have c1 := hc 1 (by omega) (by omega)
    have c2 := hc 2 (by omega) (by omega)
    have c3 := hc 3 (by omega) (by omega)
    have e1 : ¬ b < 128 := by omega
    have e2 : ¬ b / 32 = 6 := by omega
    have e2' : ¬ b / 16 = 14 := by omega
    have e2'' : b / 8 = 30 := by omega
    have e3 : b % 8 * 262144 + byteAt s (i + 1) % 64 * 4096 + byteAt s (i + 2) % 64 * 64 + byteAt s (i + 3) % 64 = ((n * 64 + byteAt s (i + 1) % 64) * 64 + byteAt s (i + 2) % 64) * 64 + byteAt s (i + 3) % 64 := by omega
    simp only [accU, Nat.zero_add, Nat.reduceAdd, e1, e2, e2', e2'', c1, c2, c3, and_self, false_and, if_true, if_false, e3]
    generalize hx : ((n * 64 + byteAt s (i + 1) % 64) * 64 + byteAt s (i + 2) % 64) * 64 + byteAt s (i + 3) % 64 = x
    by_cases h3 : 65536 ≤ x ∧ okR x
    · have h4 : ¬ x < 128 := by omega
      have h5 : ¬ x < 2048 := by omega
      have h6 : ¬ x < 65536 := by omega
      simp [h3, h4, h5, h6]
    · rw [if_neg h3]
      have h4 : ¬ (okR x ∧ (if x < 128 then 1 else if x < 2048 then 2 else if x < 65536 then 3 else 4) = 4) := by
        rintro ⟨h5, h6⟩
        split at h6
        · omega
        · split at h6
          · omega
          · split at h6
            · omega
            · exact h3 ⟨by omega, h5⟩
      rw [if_neg h4]
      simp
set_option maxRecDepth 100000 in
theorem at_low {s : ByteArray} {i : Nat} (h : byteAt s i < 128) : atR s i = (byteAt s i, 1) := by
  have e : decAt s i = (byteAt s i, 1) := by unfold decAt dec4; rw [if_pos h]
  unfold atR
  rw [e, if_neg]
  intro h2
  simp only [Prod.mk.injEq] at h2
  omega
end Go.Proofs.YthkpaelpnofbgaaGreatDoor
