/-
  Rows of documents that were found. Over the program's own text.
-/
import Derived.Test.YtaaeooimalglaaaEnts
import Derived.Test.YtaaeooimalglaaaNodeRd
namespace Go.Proofs.Ytaaeooimalglaaa
open Go.RowKit

/-- A document that was found, and how often. -/
abbrev Fo := Int × Int
def foC (x : Fo) : List Value := [.int .i64 x.1, .int .i64 x.2]
def fosC (l : List Fo) : List Value := l.flatMap foC
theorem fosC_append (a b : List Fo) : fosC (a ++ b) = fosC a ++ fosC b := List.flatMap_append
theorem fosC_length : ∀ l : List Fo, (fosC l).length = l.length * 2
  | [] => rfl
  | x :: l => by
    show (foC x ++ fosC l).length = _
    rw [List.length_append, fosC_length l, List.length_cons]
    show 2 + _ = _
    omega
theorem fosC_get : ∀ (l : List Fo) (j : Nat) (x : Fo), l[j]? = some x → (fosC l)[j * 2]? = some (.int .i64 x.1) ∧ (fosC l)[j * 2 + 1]? = some (.int .i64 x.2)
  | [], j, x, h => by simp at h
  | y :: l, 0, x, h => by
    simp at h
    subst h
    exact ⟨rfl, rfl⟩
  | y :: l, j + 1, x, h => by
    have := fosC_get l j x (by simpa using h)
    have e : fosC (y :: l) = foC y ++ fosC l := rfl
    rw [e, show (j + 1) * 2 = (foC y).length + j * 2 by simp [foC]; omega]
    refine ⟨?_, ?_⟩
    · rw [List.getElem?_append_right (by omega), Nat.add_sub_cancel_left]; exact this.1
    · rw [Nat.add_assoc, List.getElem?_append_right (by omega), Nat.add_sub_cancel_left]; exact this.2
theorem info_fo : (Try.prog.info? 44).map (fun i => (i.zero, i.size, i.bytes)) = some (some (.agg #[.int .i64 0, .int .i64 0]), 2, 16) := by kernel_rfl
def ReadFo (w : World) (oa : Option Addr) (l : List Fo) : Prop := ∀ (j : Nat) (x : Fo), l[j]? = some x → ∃ g o : Nat, oa = some ⟨g, o, none⟩ ∧ w.cell? ⟨g, o + j * 2, none⟩ = some (.int .i64 x.1) ∧ w.cell? ⟨g, o + j * 2 + 1, none⟩ = some (.int .i64 x.2)
theorem ReadFo.below {w w' : World} {oa : Option Addr} {l : List Fo} (h : ReadFo w oa l) (hb : Below w.heap.size w w') : ReadFo w' oa l := fun j x hj => by
  obtain ⟨g, o, h0, h1, h2⟩ := h j x hj
  exact ⟨g, o, h0, below_cell h1 hb, below_cell h2 hb⟩
def RdFo (w : World) (p : Value) (l : List Fo) : Prop := ∃ pa c, p = .slice pa l.length c ∧ l.length ≤ c ∧ c ≤ maxLen ∧ (pa = none → c = 0) ∧ ReadFo w pa l
theorem RdFo.below {w w' : World} {p : Value} {l : List Fo} (h : RdFo w p l) (hb : Below w.heap.size w w') : RdFo w' p l := by
  obtain ⟨pa, c, h1, h2, h3, h4, h5⟩ := h
  exact ⟨pa, c, h1, h2, h3, h4, h5.below hb⟩
def OwnFo (w : World) (base : Nat) (v : Value) (l : List Fo) : Prop := w.ownsRow base 44 2 v l.length (fosC l)
theorem OwnFo.nil (w : World) (base : Nat) : OwnFo w base (.slice none 0 0) [] := World.ownsRow_nil _ _ _ _
theorem OwnFo.reads {w : World} {base : Nat} {v : Value} {l : List Fo} (h : OwnFo w base v l) : RdFo w v l := by
  rcases h.2 with ⟨rfl, h0⟩ | ⟨g, cap, cur, rfl, hb, hg, hn, hm, hs, ht⟩
  · have : l = [] := List.eq_nil_of_length_eq_zero h0
    subst this
    exact ⟨none, 0, rfl, by simp, by simp [maxLen], fun _ => rfl, fun j x hj => by simp at hj⟩
  · refine ⟨_, cap, rfl, hn, hm, (by intro e; cases e), fun j x hj => ⟨g, 0, rfl, ?_⟩⟩
    have h3 := fosC_get l j x hj
    have hc := World.ownsRow.cells h (g := g) rfl
    simp only [Addr.add_lit] at hc
    exact ⟨hc _ _ h3.1, by simpa [Nat.add_assoc] using hc _ _ h3.2⟩
theorem OwnFo.more {W w1 w2 : World} {v v' : Value} {l : List Fo} {x : Fo} {o : Obj} {base : Nat} (hb : base ≤ w1.heap.size) (hl : Below base W w1) (hr : OwnFo w1 base v l) (ho : w2.ownsRow base 44 2 v' (l.length + 1) (fosC l ++ [.int .i64 x.1, .int .i64 x.2])) (hg : (w1.alloc o).grownBy w2 v.ownBlock) :
    OwnFo w2 base v' (l ++ [x]) ∧ Below base W w2 := by
  refine ⟨?_, (hl.alloc hb _).grown hg (by simp; omega) (fun k hk => (World.ownsRow.lt hr k hk).1)⟩
  unfold OwnFo
  rw [fosC_append]
  simpa [fosC, foC] using ho
/-- Rows of lists of entries. -/
def ReadEs (w : World) (oa : Option Addr) (L : List (List En)) : Prop := ∀ (j : Nat) (l : List En), L[j]? = some l → ∃ g o : Nat, oa = some ⟨g, o, none⟩ ∧ ∃ p, w.cell? ⟨g, o + j, none⟩ = some p ∧ ∃ pa c, p = .slice pa l.length c ∧ l.length ≤ c ∧ c ≤ maxLen ∧ (pa = none → c = 0) ∧ ReadE w pa l
theorem ReadEs.below {w w' : World} {oa : Option Addr} {L : List (List En)} (h : ReadEs w oa L) (hb : Below w.heap.size w w') : ReadEs w' oa L := fun j l hj => by
  obtain ⟨g, o, h1, p, h2, pa, c, h3, h4, h5, h6, h7⟩ := h j l hj
  exact ⟨g, o, h1, p, below_cell h2 hb, pa, c, h3, h4, h5, h6, h7.below hb⟩
/-- Rows of lists of what was found. -/
def ReadFos (w : World) (oa : Option Addr) (L : List (List Fo)) : Prop := ∀ (j : Nat) (l : List Fo), L[j]? = some l → ∃ g o : Nat, oa = some ⟨g, o, none⟩ ∧ ∃ p, w.cell? ⟨g, o + j, none⟩ = some p ∧ RdFo w p l
theorem ReadFos.below {w w' : World} {oa : Option Addr} {L : List (List Fo)} (h : ReadFos w oa L) (hb : Below w.heap.size w w') : ReadFos w' oa L := fun j l hj => by
  obtain ⟨g, o, h1, p, h2, h3⟩ := h j l hj
  exact ⟨g, o, h1, p, below_cell h2 hb, h3.below hb⟩
theorem blk_keep {p : Nat} {v : Obj} {w w' : World} (h : w.heap[p]? = some v) (hb : Below w.heap.size w w') : w'.heap[p]? = some v := (hb.block _ (lt_of_heap h)).trans h
theorem own_at {e : TypeId} {size n base : Nat} {v : Value} {xs : List Value} {w : World} (h : w.ownsRow base e size v n xs) (m : Nat) (hm : n = m) : ∃ ao c, v = .slice ao m c := by
  subst hm
  rcases h.2 with ⟨rfl, rfl⟩ | ⟨g, cap, cur, rfl, _⟩
  · exact ⟨none, 0, rfl⟩
  · exact ⟨_, _, rfl⟩
end Go.Proofs.Ytaaeooimalglaaa
