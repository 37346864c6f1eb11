/-
  Rows of lists, rows of a segment's rows, in memory: read, owned. Over the program's own text.
-/
import Derived.Test.YtaaeooimalglaaaEnts
import Derived.Test.YtaaeooimalglaaaImgPure
namespace Go.Proofs.Ytaaeooimalglaaa
open Go.ChangeShapes Go.WideShapes Go.ChangeAt Go.RowKit Go.Deep

def RdE (w : World) (p : Value) (l : List En) : Prop := ∃ pa c, p = .slice pa l.length c ∧ l.length ≤ c ∧ c ≤ maxLen ∧ (pa = none → c = 0) ∧ ReadE w pa l
theorem RdE.below {w w' : World} {p : Value} {l : List En} (h : RdE w p l) (hb : Below w.heap.size w w') : RdE w' p l := by
  obtain ⟨pa, c, h1, h2, h3, h4, h5⟩ := h
  exact ⟨pa, c, h1, h2, h3, h4, h5.below hb⟩
def ReadLi (w : World) (oa : Option Addr) (L : List Li) : Prop := ∀ (j : Nat) (l : Li), L[j]? = some l → ∃ g o : Nat, oa = some ⟨g, o, none⟩ ∧ w.cell? ⟨g, o + j * 3, none⟩ = some (.string l.key) ∧ w.cell? ⟨g, o + j * 3 + 1, none⟩ = some (.int .i64 l.record) ∧ ∃ p, w.cell? ⟨g, o + j * 3 + 2, none⟩ = some p ∧ RdE w p l.ents
theorem ReadLi.below {w w' : World} {oa : Option Addr} {L : List Li} (h : ReadLi w oa L) (hb : Below w.heap.size w w') : ReadLi w' oa L := by
  intro j l hj
  obtain ⟨g, o, h0, h1, h2, p, h3, h4⟩ := h j l hj
  exact ⟨g, o, h0, below_cell h1 hb, below_cell h2 hb, p, below_cell h3 hb, h4.below hb⟩
theorem ReadLi.nil (w : World) (oa : Option Addr) : ReadLi w oa [] := by intro j x hj; simp at hj
def liC : List Li → List Value → List Value
  | l :: L, p :: ps => .string l.key :: .int .i64 l.record :: p :: liC L ps
  | _, _ => []
theorem liC_length : ∀ (L : List Li) (ps : List Value), ps.length = L.length → (liC L ps).length = L.length * 3
  | [], [], _ => rfl
  | l :: L, p :: ps, h => by
    simp only [liC, List.length_cons]
    rw [liC_length L ps (by simpa using h)]
    omega
  | [], p :: ps, h => by simp at h
  | l :: L, [], h => by simp at h
theorem liC_snoc : ∀ (L : List Li) (ps : List Value) (l : Li) (p : Value), ps.length = L.length → liC (L ++ [l]) (ps ++ [p]) = liC L ps ++ [.string l.key, .int .i64 l.record, p]
  | [], [], l, p, _ => rfl
  | x :: L, q :: ps, l, p, h => by
    simp only [List.cons_append, liC]
    rw [liC_snoc L ps l p (by simpa using h)]
  | [], q :: ps, l, p, h => by simp at h
  | x :: L, [], l, p, h => by simp at h
theorem liC_get : ∀ (L : List Li) (ps : List Value) (j : Nat) (l : Li) (p : Value), L[j]? = some l → ps[j]? = some p → (liC L ps)[j * 3]? = some (.string l.key) ∧ (liC L ps)[j * 3 + 1]? = some (.int .i64 l.record) ∧ (liC L ps)[j * 3 + 2]? = some p
  | [], _, j, l, p, h, _ => by simp at h
  | _ :: _, [], j, l, p, _, h => by simp at h
  | x :: L, q :: ps, 0, l, p, h, h2 => by
    simp at h h2
    subst h h2
    exact ⟨rfl, rfl, rfl⟩
  | x :: L, q :: ps, j + 1, l, p, h, h2 => by
    have := liC_get L ps j l p (by simpa using h) (by simpa using h2)
    rw [show (j + 1) * 3 = j * 3 + 3 by omega]
    simp only [liC, List.getElem?_cons_succ]
    exact this
theorem liC_set : ∀ (L : List Li) (ps : List Value) (j : Nat) (l : Li) (k : ByteArray), ps.length = L.length → L[j]? = some l → (liC L ps).set (j * 3) (.string k) = liC (L.set j ⟨k, l.record, l.ents⟩) ps
  | [], _, j, l, k, _, h => by simp at h
  | _ :: _, [], j, l, k, h, _ => by simp at h
  | x :: L, q :: ps, 0, l, k, _, h => by
    simp at h
    subst h
    rfl
  | x :: L, q :: ps, j + 1, l, k, hl, h => by
    have := liC_set L ps j l k (by simpa using hl) (by simpa using h)
    rw [show (j + 1) * 3 = j * 3 + 3 by omega]
    simp only [liC, List.set_cons_succ]
    rw [this]
theorem OwnE.rd {w : World} {base : Nat} {u : Value} {l : List En} (h : OwnE w base u l) : RdE w u l := by
  obtain ⟨oa, cap, h1, h2, h3, h4, h5⟩ := h.reads
  exact ⟨oa, cap, h1, h2, h3, h4, h5⟩
/-- Entries stay where a row of another type grows. -/
theorem ents_grown {e : TypeId} {w w' : World} {base size n b2 : Nat} {v u : Value} {xs : List Value} {l : List En} (h : w.ownsRow base e size v n xs) (hg : w.grownBy w' v.ownBlock) (hu : OwnE w b2 u l) (h1 : 46 ≠ e) (h2 : 3 ≠ e) : OwnE w' b2 u l := by
  obtain ⟨ps, p1, p2, p3⟩ := hu
  refine ⟨ps, p1, row_grown h hg p2 h1, fun j x hj => ?_⟩
  obtain ⟨q, hq, hq2⟩ := p3 j x hj
  exact ⟨q, hq, row_grown h hg hq2 h2⟩
end Go.Proofs.Ytaaeooimalglaaa
