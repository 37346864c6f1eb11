/-
  The reference of layer 6: the words that are no stop words. Over the program's own text.
-/
import Derived.Test.YtaaeooimalglaaaDoorTokAll
namespace Go.Proofs.YtaaeooimalglaaaDoor
open Go.RowKit

/-- Words of field f at their places. -/
def toksP (f : Int) (l : List (List Nat × Nat)) : List Tk := l.map fun x => (f, byteText x.1, (x.2 : Int))
set_option maxRecDepth 100000 in
theorem toksP_append (f : Int) (a b : List (List Nat × Nat)) : toksP f (a ++ b) = toksP f a ++ toksP f b := by simp [toksP]
set_option maxRecDepth 100000 in
theorem toksP_length (f : Int) (a : List (List Nat × Nat)) : (toksP f a).length = a.length := by simp [toksP]
set_option maxRecDepth 100000 in
theorem own_base {e : TypeId} {size n base base' : Nat} {v : Value} {xs : List Value} {w : World} (h : w.ownsRow base e size v n xs) (hb : base' ≤ base) : w.ownsRow base' e size v n xs := by
  obtain ⟨h0, h | ⟨g, cap, cur, h1, h2, h3⟩⟩ := h
  · exact ⟨h0, .inl h⟩
  · exact ⟨h0, .inr ⟨g, cap, cur, h1, by omega, h3⟩⟩
set_option maxRecDepth 100000 in
theorem toks_more {w w1 w2 : World} {v v' : Value} {l : List Tk} {x : Tk} {o : Obj} (hl : Below w.heap.size w w1) (hr : ToksIn w1 w.heap.size v l)
    (ho : w2.ownsRow w.heap.size 42 3 v' (l.length + 1) (toksC l ++ [.int .u8 x.1, .string x.2.1, .int .i64 x.2.2])) (hg : (w1.alloc o).grownBy w2 v.ownBlock) :
    ToksIn w2 w.heap.size v' (l ++ [x]) ∧ Below w.heap.size w w2 :=
  ⟨by unfold ToksIn; rw [toksC_append]; simpa [toksC, tokC] using ho, (hl.alloc hl.size _).grown hg (by have := hl.size; simp; omega) (fun k hk => (World.ownsRow.lt hr k hk).1)⟩
set_option maxRecDepth 100000 in
theorem outT_get (o : List (List Nat)) (i : Nat) (t : List Nat) (h : o[i]? = some t) : (outT o)[i]? = some ((0 : Int), byteText t, (i : Int)) := by
  unfold outT
  rw [List.getElem?_map, List.getElem?_zipIdx, h]
  simp
set_option maxRecDepth 100000 in
theorem places_take (o : List (List Nat)) (i : Nat) (t : List Nat) (h : o[i]? = some t) : placesF 0 (o.take (i + 1)) = placesF 0 (o.take i) ++ (if stopB t then [] else [(t, i)]) := by
  have hl : (o.take i).length = i := by rw [List.length_take]; have := (List.getElem?_eq_some_iff.1 h).1; omega
  rw [List.take_add_one, h, Option.toList_some, places_append, hl, Nat.zero_add, placesF, placesF]
set_option maxRecDepth 100000 in
theorem allT_le (s : ByteArray) : (allT s).length ≤ s.size + 1 := by
  have h := run_out_le (runesOf s ++ [32]) tok0
  have h2 := (runesOf_many s).1
  simp [tok0] at h
  unfold allT allR
  simp only [tok0] at *
  omega
set_option maxRecDepth 100000 in
theorem term_lt {t : List Nat} (h : Term t) : ∀ b ∈ t, b < 256 := by
  obtain ⟨q, _, rfl, hq⟩ := h.ex
  intro b hb
  obtain ⟨x, hx, hbx⟩ := List.mem_flatMap.1 hb
  exact encR_byte x (hq x hx).1 b hbx

end Go.Proofs.YtaaeooimalglaaaDoor
