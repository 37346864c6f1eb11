/-
  The reference of layer 6: the words of a document's fields. Over the program's own text.
-/
import Derived.Test.YtaaeooimalglaaaDoorTokSame
import Derived.Test.YtaaeooimalglaaaDoorStrs
import Derived.Test.YtaaeooimalglaaaDoorRegion
import Derived.Deep.AppendLies
namespace Go.Proofs.YtaaeooimalglaaaDoor
open Go.RowKit

/-- All fields' words, each with its field's number. -/
def fieldsF : Nat → List ByteArray → List Tk
  | _, [] => []
  | n, x :: F => toksP (n : Int) (wordsT x) ++ fieldsF (n + 1) F
def fieldsT (F : List ByteArray) : List Tk := fieldsF 0 F
def longF (F : List ByteArray) : Prop := 4 < F.length ∨ ∃ x ∈ F, 512 < x.size
instance (F : List ByteArray) : Decidable (longF F) := by unfold longF; exact inferInstance
def badF (F : List ByteArray) : Prop := longF F ∨ 64 < (fieldsT F).length
instance (F : List ByteArray) : Decidable (badF F) := by unfold badF; exact inferInstance
def docL (F : List ByteArray) : List Tk := if badF F then [] else fieldsT F
def docE (F : List ByteArray) : Int := if badF F then 4 else 0
set_option maxRecDepth 100000 in
theorem fieldsF_snoc : ∀ (F : List ByteArray) (n : Nat) (x : ByteArray), fieldsF n (F ++ [x]) = fieldsF n F ++ toksP ((n + F.length : Nat) : Int) (wordsT x)
  | [], n, x => by simp [fieldsF]
  | y :: F, n, x => by
    rw [List.cons_append, fieldsF, fieldsF, fieldsF_snoc F (n + 1) x, List.append_assoc, List.length_cons, show n + 1 + F.length = n + (F.length + 1) by omega]
set_option maxRecDepth 100000 in
theorem words_le (s : ByteArray) : (wordsT s).length ≤ s.size + 1 := Nat.le_trans (places_len _ _) (allT_le s)
set_option maxRecDepth 100000 in
theorem fieldsF_le (m : Nat) : ∀ (F : List ByteArray) (n : Nat), (∀ x ∈ F, x.size ≤ m) → (fieldsF n F).length ≤ F.length * (m + 1)
  | [], _, _ => by simp [fieldsF]
  | x :: F, n, h => by
    have h1 := words_le x
    have h2 := h x (by simp)
    have h3 := fieldsF_le m F (n + 1) fun y hy => h y (by simp [hy])
    rw [fieldsF, List.length_append, toksP_length, List.length_cons, Nat.succ_mul]
    omega

/-- A word more behind a row of words: where it lies, and that what is another row's stays. -/
structure Two (W : World) (b2 : Nat) (vo vl : Value) (A B : List Tk) (w : World) : Prop where
  out : ToksIn w W.heap.size vo A
  lst : ToksIn w b2 vl B
  ne : vo.ownBlock = none ∨ vl.ownBlock = none ∨ vo.ownBlock ≠ vl.ownBlock
  b : W.heap.size ≤ b2
  low : Below W.heap.size W w
set_option maxRecDepth 100000 in
theorem Two.alloc {W : World} {b2 : Nat} {vo vl : Value} {A B : List Tk} {w : World} (h : Two W b2 vo vl A B w) (o : Obj) : Two W b2 vo vl A B (w.alloc o) :=
  ⟨World.ownsRow.alloc h.out o, World.ownsRow.alloc h.lst o, h.ne, h.b, h.low.alloc h.low.size o⟩
set_option maxRecDepth 100000 in
theorem Two.drew {W : World} {b2 : Nat} {vo vl : Value} {A B : List Tk} {w : World} (h : Two W b2 vo vl A B w) : Two W b2 vo vl A B w.drew := ⟨h.out, h.lst, h.ne, h.b, h.low.drew⟩
set_option maxRecDepth 100000 in
theorem Two.more {W : World} {b2 : Nat} {vo vl : Value} {A B : List Tk} {w w' : World} {x : Tk} {g cap : Nat} (h : Two W b2 vo vl A B w)
    (ho : w'.ownsRow W.heap.size 42 3 (.slice (some ⟨g, 0, none⟩) (A.length + 1) cap) (A.length + 1) (toksC A ++ [.int .u8 x.1, .string x.2.1, .int .i64 x.2.2])) (hg : w.grownBy w' vo.ownBlock) (hl : vo.ownBlock = some g ∨ g = w.heap.size) :
    Two W b2 (.slice (some ⟨g, 0, none⟩) (A.length + 1) cap) vl (A ++ [x]) B w' := by
  refine ⟨by unfold ToksIn; rw [toksC_append]; simpa [toksC, tokC] using ho, World.ownsRow.kept h.lst hg ?_, ?_, h.b, h.low.grown hg h.low.size (fun k hk => (World.ownsRow.lt h.out k hk).1)⟩
  · rcases h.ne with e | e | e
    · rw [e]
      cases hv : vl.ownBlock with
      | none => exact .inl rfl
      | some k => exact .inr (by simp)
    · exact .inl e
    · exact .inr (Ne.symm e)
  · cases hv : vl.ownBlock with
    | none => exact .inr (.inl rfl)
    | some k =>
      refine .inr (.inr ?_)
      have hk := (World.ownsRow.lt h.lst k hv).2
      rcases hl with e | e
      · rcases h.ne with e2 | e2 | e2
        · rw [e2] at e; cases e
        · rw [e2] at hv; cases hv
        · rw [e, hv] at e2
          simpa [Value.ownBlock] using e2
      · simp only [Value.ownBlock]
        intro e3
        injection e3 with e3
        omega
-- tokens
set_option maxRecDepth 100000 in
theorem Two.reads {W : World} {b2 n cap : Nat} {vo : Value} {ol : Option Addr} {A B : List Tk} {w : World} (h : Two W b2 vo (.slice ol n cap) A B w) : ReadT w ol B := by
  obtain ⟨oa, c, he, _, _, hr⟩ := toks_reads h.lst
  injection he with h1 _ _
  rw [h1]
  exact hr
set_option maxRecDepth 100000 in
theorem Two.at_some {W : World} {b2 n cap : Nat} {vo : Value} {ol : Option Addr} {A B : List Tk} {w : World} (h : Two W b2 vo (.slice ol n cap) A B w) {k : Nat} {x : Tk} (hk : B[k]? = some x) : ∃ g off, ol = some ⟨g, off, none⟩ := by
  obtain ⟨g, off, h1, _⟩ := h.reads k x hk
  exact ⟨g, off, h1⟩
set_option maxRecDepth 100000 in
theorem Two.read {W : World} {b2 n cap : Nat} {vo : Value} {g off : Nat} {A B : List Tk} {w : World} (h : Two W b2 vo (.slice (some ⟨g, off, none⟩) n cap) A B w) {k : Nat} {x : Tk} (hk : B[k]? = some x) :
    w.cell? ⟨g, off + k * 3 + 1, none⟩ = some (.string x.2.1) ∧ w.cell? ⟨g, off + k * 3 + 2, none⟩ = some (.int .i64 x.2.2) := by
  obtain ⟨g', off', h1, _, h2, h3⟩ := h.reads k x hk
  injection h1 with h1
  injection h1 with a b
  subst a b
  exact ⟨h2, h3⟩
set_option maxRecDepth 100000 in
theorem news_of {w : World} {q : Nat} {x y z : Value} {t : TypeId} {fr : Nat × Nat} (h : w.heap[q]? = some (.cells #[x, y, z] t fr)) : ∀ (j : Nat) (u : Value), [x, y, z][j]? = some u → w.cell? ((⟨q, 0, none⟩ : Addr).add j) = some u := by
  intro j u hj
  rw [Addr.add_lit, Lib.cell_of_heap h]
  simpa using hj

end Go.Proofs.YtaaeooimalglaaaDoor
