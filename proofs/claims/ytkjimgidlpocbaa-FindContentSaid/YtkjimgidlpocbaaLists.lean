/-
  Rows of lists, rows of a segment's rows, in memory: read, owned. Over the program's own text.
-/
import Derived.Test.YtkjimgidlpocbaaEnts
import Derived.Test.YtkjimgidlpocbaaImgPure
namespace Go.Proofs.Ytkjimgidlpocbaa
open Go.ChangeShapes Go.WideShapes Go.ChangeAt Go.RowKit Go.Deep

def RdE (w : World) (p : Value) (l : List En) : Prop := ∃ pa c, p = .slice pa l.length c ∧ l.length ≤ c ∧ c ≤ maxLen ∧ (pa = none → c = 0) ∧ ReadE w pa l
theorem RdE.below {w w' : World} {p : Value} {l : List En} (h : RdE w p l) (hb : Below w.heap.size w w') : RdE w' p l := by
  obtain ⟨pa, c, h1, h2, h3, h4, h5⟩ := h
  exact ⟨pa, c, h1, h2, h3, h4, h5.below hb⟩
def ReadLi (w : World) (oa : Option Addr) (L : List Li) : Prop := ∀ (j : Nat) (l : Li), L[j]? = some l → ∃ g o : Nat, oa = some ⟨g, o, none⟩ ∧ w.cell? ⟨g, o + j * 3, none⟩ = some (.string l.key) ∧ w.cell? ⟨g, o + j * 3 + 1, none⟩ = some (.int .i64 l.record) ∧ ∃ p, w.cell? ⟨g, o + j * 3 + 2, none⟩ = some p ∧ RdE w p l.ents
theorem ReadLi.below {w w' : World} {oa : Option Addr} {L : List Li} (h : ReadLi w oa L) (hb : Below w.heap.size w w') : ReadLi w' oa L := by
  intro j l hj
  obtain ⟨g, o, h0, h1, h2, p, h3, h4⟩ := h j l hj
  exact ⟨g, o, h0, below_cell h1 hb, below_cell h2 hb, p, below_cell h3 hb, h4.below hb⟩
theorem ReadLi.nil (w : World) (oa : Option Addr) : ReadLi w oa [] := by intro j x hj; simp at hj
def liC : List Li → List Value → List Value
  | l :: L, p :: ps => .string l.key :: .int .i64 l.record :: p :: liC L ps
  | _, _ => []
theorem liC_length : ∀ (L : List Li) (ps : List Value), ps.length = L.length → (liC L ps).length = L.length * 3
  | [], [], _ => rfl
  | l :: L, p :: ps, h => by
    simp only [liC, List.length_cons]
    rw [liC_length L ps (by simpa using h)]
    omega
  | [], p :: ps, h => by simp at h
  | l :: L, [], h => by simp at h
theorem liC_snoc : ∀ (L : List Li) (ps : List Value) (l : Li) (p : Value), ps.length = L.length → liC (L ++ [l]) (ps ++ [p]) = liC L ps ++ [.string l.key, .int .i64 l.record, p]
  | [], [], l, p, _ => rfl
  | x :: L, q :: ps, l, p, h => by
    simp only [List.cons_append, liC]
    rw [liC_snoc L ps l p (by simpa using h)]
  | [], q :: ps, l, p, h => by simp at h
  | x :: L, [], l, p, h => by simp at h
theorem liC_get : ∀ (L : List Li) (ps : List Value) (j : Nat) (l : Li) (p : Value), L[j]? = some l → ps[j]? = some p → (liC L ps)[j * 3]? = some (.string l.key) ∧ (liC L ps)[j * 3 + 1]? = some (.int .i64 l.record) ∧ (liC L ps)[j * 3 + 2]? = some p
  | [], _, j, l, p, h, _ => by simp at h
  | _ :: _, [], j, l, p, _, h => by simp at h
  | x :: L, q :: ps, 0, l, p, h, h2 => by
    simp at h h2
    subst h h2
    exact ⟨rfl, rfl, rfl⟩
  | x :: L, q :: ps, j + 1, l, p, h, h2 => by
    have := liC_get L ps j l p (by simpa using h) (by simpa using h2)
    rw [show (j + 1) * 3 = j * 3 + 3 by omega]
    simp only [liC, List.getElem?_cons_succ]
    exact this
theorem liC_set : ∀ (L : List Li) (ps : List Value) (j : Nat) (l : Li) (k : ByteArray), ps.length = L.length → L[j]? = some l → (liC L ps).set (j * 3) (.string k) = liC (L.set j ⟨k, l.record, l.ents⟩) ps
  | [], _, j, l, k, _, h => by simp at h
  | _ :: _, [], j, l, k, h, _ => by simp at h
  | x :: L, q :: ps, 0, l, k, _, h => by
    simp at h
    subst h
    rfl
  | x :: L, q :: ps, j + 1, l, k, hl, h => by
    have := liC_set L ps j l k (by simpa using hl) (by simpa using h)
    rw [show (j + 1) * 3 = j * 3 + 3 by omega]
    simp only [liC, List.set_cons_succ]
    rw [this]
def OwnLi (w : World) (base : Nat) (v : Value) (L : List Li) : Prop := ∃ ps : List Value, ps.length = L.length ∧ w.ownsRow base 34 3 v L.length (liC L ps) ∧ ∀ (j : Nat) (l : Li), L[j]? = some l → ∃ u, ps[j]? = some u ∧ OwnE w base u l.ents
theorem OwnLi.nil (w : World) (base : Nat) : OwnLi w base (.slice none 0 0) [] := ⟨[], rfl, World.ownsRow_nil _ _ _ _, by simp⟩
theorem OwnLi.below {w w' : World} {base : Nat} {v : Value} {L : List Li} (h : OwnLi w base v L) (hb : Below w.heap.size w w') : OwnLi w' base v L := by
  obtain ⟨ps, h1, h2, h3⟩ := h
  refine ⟨ps, h1, owned_below h2 hb, fun j e hj => ?_⟩
  obtain ⟨u, h4, h5⟩ := h3 j e hj
  exact ⟨u, h4, h5.below hb⟩
theorem OwnE.rd {w : World} {base : Nat} {u : Value} {l : List En} (h : OwnE w base u l) : RdE w u l := by
  obtain ⟨oa, cap, h1, h2, h3, h4, h5⟩ := h.reads
  exact ⟨oa, cap, h1, h2, h3, h4, h5⟩
theorem OwnLi.reads {w : World} {base : Nat} {v : Value} {L : List Li} (h : OwnLi w base v L) : ∃ oa cap, v = .slice oa L.length cap ∧ L.length ≤ cap ∧ cap ≤ maxLen ∧ (oa = none → cap = 0) ∧ ReadLi w oa L := by
  obtain ⟨ps, h1, h2, h3⟩ := h
  rcases h2.2 with ⟨rfl, h0⟩ | ⟨g, cap, cur, rfl, hb, hg, hn, hm, hs, ht⟩
  · have : L = [] := List.eq_nil_of_length_eq_zero h0
    subst this
    exact ⟨none, 0, rfl, by simp, by simp [maxLen], fun _ => rfl, ReadLi.nil _ _⟩
  · refine ⟨_, cap, rfl, hn, hm, (by intro e; cases e), fun j e hj => ?_⟩
    obtain ⟨u, hu, ho⟩ := h3 j e hj
    have hgt := liC_get L ps j e u hj hu
    have hc := World.ownsRow.cells h2 (g := g) rfl
    simp only [Addr.add_lit] at hc
    exact ⟨g, 0, rfl, hc _ _ hgt.1, by simpa [Nat.add_assoc] using hc _ _ hgt.2.1, _, by simpa [Nat.add_assoc] using hc _ _ hgt.2.2, ho.rd⟩
/-- Entries stay where a row of another type grows. -/
theorem ents_grown {e : TypeId} {w w' : World} {base size n b2 : Nat} {v u : Value} {xs : List Value} {l : List En} (h : w.ownsRow base e size v n xs) (hg : w.grownBy w' v.ownBlock) (hu : OwnE w b2 u l) (h1 : 51 ≠ e) (h2 : 3 ≠ e) : OwnE w' b2 u l := by
  obtain ⟨ps, p1, p2, p3⟩ := hu
  refine ⟨ps, p1, row_grown h hg p2 h1, fun j x hj => ?_⟩
  obtain ⟨q, hq, hq2⟩ := p3 j x hj
  exact ⟨q, hq, row_grown h hg hq2 h2⟩
theorem OwnLi.grown {e : TypeId} {w w' : World} {base size n b2 : Nat} {v u : Value} {xs : List Value} {L : List Li} (h : w.ownsRow base e size v n xs) (hg : w.grownBy w' v.ownBlock) (hu : OwnLi w b2 u L) (h0 : 34 ≠ e) (h1 : 51 ≠ e) (h2 : 3 ≠ e) : OwnLi w' b2 u L := by
  obtain ⟨ps, p1, p2, p3⟩ := hu
  refine ⟨ps, p1, row_grown h hg p2 h0, fun j x hj => ?_⟩
  obtain ⟨q, hq, hq2⟩ := p3 j x hj
  exact ⟨q, hq, ents_grown h hg hq2 h1 h2⟩
theorem OwnLi.push {W w w8 : World} {base : Nat} {v v' u : Value} {ps : List Value} {L : List Li} {l : Li} (hbs : base ≤ w.heap.size) (hl : Below base W w) (h0 : ps.length = L.length) (h1 : w.ownsRow base 34 3 v L.length (liC L ps)) (h2 : ∀ (j : Nat) (l : Li), L[j]? = some l → ∃ u, ps[j]? = some u ∧ OwnE w base u l.ents)
    (hu : OwnE w base u l.ents) (ho : w8.ownsRow base 34 3 v' (L.length + 1) (liC L ps ++ [.string l.key, .int .i64 l.record, u])) (hg : w.grownBy w8 v.ownBlock) : OwnLi w8 base v' (L ++ [l]) ∧ Below base W w8 := by
  refine ⟨⟨ps ++ [u], by simp [h0], ?_, fun j x hj => ?_⟩, hl.grown hg hbs (fun k hk => (World.ownsRow.lt h1 k hk).1)⟩
  · rw [liC_snoc L ps l u h0, List.length_append]
    exact ho
  · by_cases hj2 : j < L.length
    · rw [List.getElem?_append_left hj2] at hj
      obtain ⟨q, hq, hq2⟩ := h2 j x hj
      exact ⟨q, by rw [List.getElem?_append_left (by omega)]; exact hq, ents_grown h1 hg hq2 (by decide) (by decide)⟩
    · have hjl : j = L.length := by
        have := (List.getElem?_eq_some_iff.1 hj).1
        simp at this
        omega
      subst hjl
      simp at hj
      subst hj
      exact ⟨u, by rw [← h0]; simp, ents_grown h1 hg hu (by decide) (by decide)⟩
/-- Rows of a segment, four numbers each. -/
def OwnRw (w : World) (base : Nat) (v : Value) (n : Nat) (F : List Nat) : Prop := w.ownsRow base 54 4 v n (numC .u32 F)
theorem OwnRw.nil (w : World) (base : Nat) : OwnRw w base (.slice none 0 0) 0 [] := World.ownsRow_nil _ _ _ _
theorem OwnRw.below {w w' : World} {base n : Nat} {v : Value} {F : List Nat} (h : OwnRw w base v n F) (hb : Below w.heap.size w w') : OwnRw w' base v n F := owned_below h hb
theorem OwnRw.length {w : World} {base n : Nat} {v : Value} {F : List Nat} (h : OwnRw w base v n F) : F.length = n * 4 := by have := h.1; rwa [numC_length] at this
theorem OwnRw.reads {w : World} {base n : Nat} {v : Value} {F : List Nat} (h : OwnRw w base v n F) : ∃ oa cap, v = .slice oa n cap ∧ n ≤ cap ∧ cap ≤ maxLen ∧ (oa = none → cap = 0) ∧ ReadN .u32 w oa F := by
  have hl := h.length
  rcases h.2 with ⟨rfl, h0⟩ | ⟨g, cap, cur, rfl, hb, hg, hn, hm, hs, ht⟩
  · subst h0
    have : F = [] := List.eq_nil_of_length_eq_zero (by omega)
    subst this
    exact ⟨none, 0, rfl, by simp, by simp [maxLen], fun _ => rfl, ReadN.nil _ _ _⟩
  · refine ⟨_, cap, rfl, hn, hm, (by intro e; cases e), fun j x hj => ?_⟩
    have hc := World.ownsRow.cells h (g := g) rfl
    simp only [Addr.add_lit] at hc
    exact ⟨g, 0, rfl, hc _ _ (numC_get hj)⟩
theorem info_row : (Try.prog.info? 54).map (fun i => (i.zero, i.size, i.bytes)) = some (some (.agg #[.int .u32 0, .int .u32 0, .int .u32 0, .int .u32 0]), 4, 16) := by kernel_rfl
theorem info_list : (Try.prog.info? 34).map (fun i => (i.zero, i.size, i.bytes)) = some (some (.agg #[.string ByteArray.empty, .int .i64 0, .slice none 0 0]), 3, 48) := by kernel_rfl
theorem cells_list : Try.prog.cellsOf 34 = 3 := by kernel_rfl
theorem cells_row : Try.prog.cellsOf 54 = 4 := by kernel_rfl
end Go.Proofs.Ytkjimgidlpocbaa
