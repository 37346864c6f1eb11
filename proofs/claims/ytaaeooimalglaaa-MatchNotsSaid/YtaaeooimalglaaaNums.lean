/-
  Rows of numbers of one kind, a cell each: read, owned, made anew, come in. Nothing of one layer stands here.
-/
import Derived.Test.YtaaeooimalglaaaArgs
import Derived.Test.YtaaeooimalglaaaBytes
import Derived.ChangeSlices
import Derived.Laws.AppendOwnNone
import Derived.ChangeMaps5
namespace Go.Proofs.Ytaaeooimalglaaa
open Go.ChangeShapes Go.WideShapes Go.ChangeAt Go.RowKit Go.Deep

def numC (k : IntKind) (l : List Nat) : List Value := l.map fun (x : Nat) => Value.int k (x : Int)
theorem numC_length (k : IntKind) (l : List Nat) : (numC k l).length = l.length := by simp [numC]
theorem numC_get {k : IntKind} {l : List Nat} {j x : Nat} (h : l[j]? = some x) : (numC k l)[j]? = some (.int k (x : Int)) := by simp [numC, h]
theorem numC_snoc (k : IntKind) (l : List Nat) (x : Nat) : numC k (l ++ [x]) = numC k l ++ [.int k (x : Int)] := by simp [numC]
theorem numC_append (k : IntKind) (l m : List Nat) : numC k (l ++ m) = numC k l ++ numC k m := by simp [numC]
theorem numC_one (k : IntKind) (l : List Nat) : ∀ v ∈ numC k l, v.oneCell' = true := by
  intro v hv
  obtain ⟨x, _, rfl⟩ := List.mem_map.1 hv
  rfl
/-- A row that reads as these numbers. -/
def ReadN (k : IntKind) (w : World) (oa : Option Addr) (l : List Nat) : Prop := ∀ j x : Nat, l[j]? = some x → ∃ g o : Nat, oa = some ⟨g, o, none⟩ ∧ w.cell? ⟨g, o + j, none⟩ = some (.int k (x : Int))
theorem ReadN.below {k : IntKind} {w w' : World} {oa : Option Addr} {l : List Nat} (h : ReadN k w oa l) (hb : Below w.heap.size w w') : ReadN k w' oa l := by
  intro j x hj
  obtain ⟨g, o, e, hc⟩ := h j x hj
  exact ⟨g, o, e, below_cell hc hb⟩
theorem ReadN.drewN {k : IntKind} {w : World} {oa : Option Addr} {l : List Nat} (h : ReadN k w oa l) (m : Nat) : ReadN k (w.drewN m) oa l := h.below (below_drawn (Below.refl _ _) m)
theorem ReadN.alloc {k : IntKind} {w : World} {oa : Option Addr} {l : List Nat} (h : ReadN k w oa l) (o : Obj) : ReadN k (w.alloc o) oa l := h.below ((Below.refl _ _).alloc (Nat.le_refl _) o)
theorem ReadN.nil (k : IntKind) (w : World) (oa : Option Addr) : ReadN k w oa [] := by intro j x hj; simp at hj
theorem ReadN.front {k : IntKind} {w : World} {oa : Option Addr} {l m : List Nat} (h : ReadN k w oa (l ++ m)) : ReadN k w oa l := by
  intro j x hj
  have : j < l.length := (List.getElem?_eq_some_iff.1 hj).1
  exact h j x (by rw [List.getElem?_append_left this]; exact hj)
theorem ReadN.block {k : IntKind} {w : World} {oa : Option Addr} {l : List Nat} {x : Nat} {j : Nat} (h : ReadN k w oa l) (hj : l[j]? = some x) : ∃ g o, oa = some ⟨g, o, none⟩ ∧ g < w.heap.size := by
  obtain ⟨g, o, e, hc⟩ := h j x hj
  exact ⟨g, o, e, lt_of_cell hc⟩
/-- A row just made, read. -/
theorem readN_new (k : IntKind) (w : World) (l : List Nat) (t : TypeId) : ReadN k (w.alloc (.cells (numC k l).toArray t)) (some ⟨w.heap.size, 0, none⟩) l := by
  intro j x hj
  refine ⟨_, _, rfl, ?_⟩
  rw [Lib.cell_of_heap (heap_alloc_new w _)]
  simpa using numC_get hj
theorem one_cell {w : World} {v : Value} {t : TypeId} : ∀ (j : Nat) (u : Value), [v][j]? = some u → (w.alloc (.cells #[v] t)).cell? ((⟨w.heap.size, 0, none⟩ : Addr).add j) = some u := by
  intro j u hj
  rcases j with _ | j
  · simp at hj; subst hj
    rw [Addr.add_lit]; exact cell_at (heap_alloc_new w _) 0
  · simp at hj
/-- A row of one's own. -/
def OwnN (t : TypeId) (k : IntKind) (w : World) (base : Nat) (v : Value) (l : List Nat) : Prop := w.ownsRow base t 1 v l.length (numC k l)
theorem owned_below {w w' : World} {e : TypeId} {size n base : Nat} {v : Value} {xs : List Value} (h : w.ownsRow base e size v n xs) (hb : Below w.heap.size w w') : w'.ownsRow base e size v n xs := by
  obtain ⟨h0, h | ⟨g, cap, cur, h1, h2, h3, h4⟩⟩ := h
  · exact ⟨h0, .inl h⟩
  · refine ⟨h0, .inr ⟨g, cap, cur, h1, h2, ?_, h4⟩⟩
    rw [hb.block g (lt_of_heap h3)]; exact h3
theorem OwnN.below {t : TypeId} {k : IntKind} {w w' : World} {base : Nat} {v : Value} {l : List Nat} (h : OwnN t k w base v l) (hb : Below w.heap.size w w') : OwnN t k w' base v l := owned_below h hb
theorem OwnN.new (t : TypeId) (k : IntKind) (w : World) (base : Nat) (h : base ≤ w.heap.size) : OwnN t k (w.alloc (.cells #[] t)) base (.slice (some ⟨w.heap.size, 0, none⟩) 0 0) [] :=
  World.ownsRow_lit (base := base) (e := t) (size := 1) w #[] 0 h (by decide) (by simp)
theorem OwnN.nil (t : TypeId) (k : IntKind) (w : World) (base : Nat) : OwnN t k w base (.slice none 0 0) [] := World.ownsRow_nil _ _ _ _
theorem OwnN.more {t : TypeId} {k : IntKind} {W w1 w2 : World} {v v' : Value} {l m : List Nat} {o : Obj} (hl : Below W.heap.size W w1) (hr : OwnN t k w1 W.heap.size v l) (ho : w2.ownsRow W.heap.size t 1 v' (l.length + m.length) (numC k l ++ numC k m)) (hg : (w1.alloc o).grownBy w2 v.ownBlock) :
    OwnN t k w2 W.heap.size v' (l ++ m) ∧ Below W.heap.size W w2 :=
  ⟨by unfold OwnN; rw [numC_append, List.length_append]; exact ho, (hl.alloc hl.size _).grown hg (by have := hl.size; simp; omega) (fun k hk => (World.ownsRow.lt hr k hk).1)⟩
theorem OwnN.more0 {t : TypeId} {k : IntKind} {W w1 w2 : World} {v v' : Value} {l m : List Nat} (hl : Below W.heap.size W w1) (hr : OwnN t k w1 W.heap.size v l) (ho : w2.ownsRow W.heap.size t 1 v' (l.length + m.length) (numC k l ++ numC k m)) (hg : w1.grownBy w2 v.ownBlock) :
    OwnN t k w2 W.heap.size v' (l ++ m) ∧ Below W.heap.size W w2 :=
  ⟨by unfold OwnN; rw [numC_append, List.length_append]; exact ho, hl.grown hg hl.size (fun k hk => (World.ownsRow.lt hr k hk).1)⟩
/-- It is read. -/
theorem OwnN.reads {t : TypeId} {k : IntKind} {w : World} {base : Nat} {v : Value} {l : List Nat} (h : OwnN t k w base v l) : ∃ oa cap, v = .slice oa l.length cap ∧ l.length ≤ cap ∧ cap ≤ maxLen ∧ (oa = none → cap = 0) ∧ ReadN k w oa l := by
  by_cases hn : v = .slice none 0 0
  · subst hn
    rcases h.2 with ⟨_, h0⟩ | ⟨g, cap, cur, e, _⟩
    · have : l = [] := List.eq_nil_of_length_eq_zero h0
      subst this
      exact ⟨none, 0, rfl, by simp, by simp [maxLen], fun _ => rfl, ReadN.nil _ _ _⟩
    · cases e
  · obtain ⟨h0, h1 | ⟨g, cap, cur, rfl, h2, h3, h4, h5, h6⟩⟩ := h
    · exact absurd h1.1 hn
    · refine ⟨some ⟨g, 0, none⟩, cap, rfl, h4, h5, (by intro e; cases e), ?_⟩
      intro j x hj
      have := World.ownsRow.cells (w := w) (base := base) (e := t) (size := 1) (n := l.length) (xs := numC k l) (v := .slice (some ⟨g, 0, none⟩) l.length cap) ⟨h0, .inr ⟨g, cap, cur, rfl, h2, h3, h4, h5, h6⟩⟩ (g := g) rfl j _ (numC_get hj)
      rw [Addr.add_lit] at this
      exact ⟨g, 0, rfl, this⟩
theorem OwnN.reads_of {t : TypeId} {k : IntKind} {w : World} {base : Nat} {v : Value} {l : List Nat} (h : OwnN t k w base v l) (n : Nat) (hn : l.length = n) : ∃ oa cap, v = .slice oa n cap ∧ n ≤ cap ∧ cap ≤ maxLen ∧ (oa = none → cap = 0) ∧ ReadN k w oa l := by
  subst hn
  exact h.reads
theorem ReadN.cells {k : IntKind} {w : World} {ad : Addr} {l : List Nat} (h : ReadN k w (some ad) l) : ∀ (j : Nat) (u : Value), (numC k l)[j]? = some u → w.cell? (ad.add j) = some u := by
  intro j u hj
  unfold numC at hj
  rw [List.getElem?_map] at hj
  obtain ⟨x, hx, rfl⟩ := Option.map_eq_some_iff.1 hj
  obtain ⟨g, o, he, hc⟩ := h j x hx
  injection he with he
  subst he
  rw [Addr.add_lit]
  exact hc
/-- Numbers behind numbers, wherever they are read. -/
theorem append_nums {w W : World} {ops : Array Oper} {rest : List Oper} {o : Oper} {a : Act} {Q : Exit → Act → World → Prop} (hgd : o.guard = none) (s x : Operand) (t e : TypeId) (k : IntKind) (iT : TypeInfo) (z : Value) (bs : Nat)
    (hop : o.op = .call { callee := .builtin .append, args := #[s, x], argTypes := #[t, t] }) (ht : Try.prog.underlying t = some (.slice e)) (hi : Try.prog.info? e = some iT) (hz : iT.zero = some z) (h1 : iT.size = 1) (h2 : iT.bytes = bs) (hzs : z.cells.size = 1) (h8 : bs ≤ 8)
    (v : Value) (A B : List Nat) (hs : a.eval s = v) (hlow : Below W.heap.size W w) (hown : OwnN e k w W.heap.size v A) (oa : Option Addr) (c n : Nat) (hn : B.length = n) (hx : a.eval x = .slice oa n c) (hB : ReadN k w oa B) (h0 : oa = none → c = 0) (hc : n ≤ c)
    (hl : A.length + n ≤ 1000000)
    (h : ∀ v' w', OwnN e k w' W.heap.size v' (A ++ B) ∧ Below W.heap.size W w' → w.grownBy w' v.ownBlock → wpList Try.prog ops Q rest (a.put o.dst v') w') : wpList Try.prog ops Q (o :: rest) a w := by
  subst hn
  cases oa with
  | none =>
    have hc0 := h0 rfl
    have hB0 : B = [] := List.eq_nil_of_length_eq_zero (by omega)
    subst hB0 hc0
    exact wpList_append_own_none hgd s x t hop W.heap.size e iT 1 ht hi v A.length (numC k A) hs hown hx (h v w (by rw [List.append_nil]; exact ⟨hown, hlow⟩) (World.grownBy.refl w _))
  | some ad =>
    refine wpList_append_own w hgd s x t hop W.heap.size e iT z 1 bs ht hi hz h1 h2 hzs (by decide) v A.length (numC k A) hs hown ad B.length c (numC k B) hx (by rw [numC_length, Nat.mul_one]) hB.cells (numC_one k B) (by unfold maxLen; omega) (by have := Nat.mul_le_mul hl h8; omega) hlow.size ?_
    intro v' w' ho hg _
    exact h v' w' (OwnN.more0 hlow hown ho hg) hg
theorem OwnN.slice {t : TypeId} {k : IntKind} {w : World} {base : Nat} {v : Value} {l : List Nat} (h : OwnN t k w base v l) (m : Nat) (hm : l.length = m) : ∃ ao c, v = .slice ao m c := by
  obtain ⟨oa, cap, rfl, _⟩ := h.reads
  exact ⟨oa, cap, by rw [hm]⟩

theorem low_new {a b : World} {o : Obj} (h : Below a.heap.size a b) : Below a.heap.size a (b.alloc o) := h.alloc h.size o
/-- One call more. -/
theorem low_more {a b c : World} (h : Below a.heap.size a b) (k : Below b.heap.size b c) : Below a.heap.size a c := h.trans (k.mono h.size)

theorem OwnN.at_ {t : TypeId} {k : IntKind} {w : World} {base : Nat} {v : Value} {l : List Nat} (h : OwnN t k w base v l) (hn : v ≠ .slice none 0 0) (m : Nat) (hm : l.length = m) : ∃ g cap, v = .slice (some ⟨g, 0, none⟩) m cap ∧ m ≤ cap ∧ cap ≤ maxLen := by
  obtain ⟨_, h1 | ⟨g, cap, _, e, _, _, h2, h3, _⟩⟩ := h
  · exact absurd h1.1 hn
  · exact ⟨g, cap, by rw [e, hm], by omega, h3⟩
/-- Its first ones. -/
theorem OwnN.first {t : TypeId} {k : IntKind} {w : World} {base g n c : Nat} {l : List Nat} (h : OwnN t k w base (.slice (some ⟨g, 0, none⟩) n c) l) (m : Nat) (hm : m ≤ n) : OwnN t k w base (.slice (some ⟨g, 0, none⟩) m c) (l.take m) := by
  obtain ⟨h0, h1 | ⟨g', cap, cur, e, h2, h3, h4, h5, h6, h7⟩⟩ := h
  · cases h1.1
  · injection e with e1 e2 e3
    injection e1 with e1
    injection e1 with e1
    subst e1 e3
    rw [e2] at hm
    have hl : (l.take m).length = m := by simp; omega
    refine ⟨by rw [numC_length, Nat.mul_one], .inr ⟨g, c, cur, by rw [hl], h2, h3, by omega, h5, h6, ?_⟩⟩
    rw [hl, Nat.mul_one]
    rw [Nat.mul_one] at h7
    unfold numC at h7 ⊢
    rw [List.map_take, ← h7, List.take_take, Nat.min_eq_left hm]

/-! ### A list that comes in -/
theorem cell_plain {w : World} {a : Addr} {v : Value} (h : w.cell? a = some v) : ∃ g o, a = ⟨g, o, none⟩ := by
  obtain ⟨g, o, q⟩ := a
  cases q with
  | none => exact ⟨g, o, rfl⟩
  | some q =>
    simp only [World.cell?] at h
    split at h <;> simp_all
theorem size_int {s : ByteArray} (h : s.size ≤ maxLen) : (s.size : Int) ≤ 9223372036854775807 := by unfold maxLen at h; omega
theorem wf_nat {k : IntKind} {r : Int} (hk : k.signed = false) (h : (Lit.int k r).wf = true) : 0 ≤ r ∧ r < 2 ^ k.bits := by
  simp [Lit.wf, IntKind.min, IntKind.max, hk] at h
  omega
theorem open_nums {H : Type} {enc : TypeId × Value → H} {W : World} {v : Value} {d : DataW H} {p : List MemPlace} {base : Nat} {t e : TypeId} {k : IntKind} (hk : k.signed = false) (ht : Try.prog.underlying t = some (.slice e)) (he : Try.prog.underlying e = some (.int k)) (hc : Try.prog.cellsOf e = 1)
    (hv : Value.okWide Try.prog W .any base t v) (h : DataW.Trod enc Try.prog W 0 (fun _ => true) true t v d p) :
    ∃ ao L cap, v = .slice ao L.length cap ∧ ReadN k W ao L ∧ L.length ≤ cap ∧ cap ≤ maxLen ∧ (ao = none → cap = 0) ∧ ∀ x ∈ L, x < 2 ^ k.bits := by
  obtain ⟨a, len, cap, rfl⟩ := okWide_slice ht hv
  obtain ⟨fuel, hf⟩ := h
  rcases open_ints ht he hc hf with ⟨hcs, _⟩ | ⟨a', len', cap', zs, hcs, _, hl, hm, hz, _, hcell, hwf⟩
  · simp only [Value.cells, List.cons.injEq, and_true, Value.slice.injEq] at hcs
    obtain ⟨rfl, rfl, rfl⟩ := hcs
    exact ⟨none, [], 0, rfl, ReadN.nil _ _ _, by simp, by simp [maxLen], fun _ => rfl, by simp⟩
  · simp only [Value.cells, List.cons.injEq, and_true, Value.slice.injEq] at hcs
    obtain ⟨rfl, rfl, rfl⟩ := hcs
    simp only [if_true] at hz
    have hlen : ((zs.take len).map Int.toNat).length = len := by simp; omega
    have hnat : ∀ z ∈ zs.take len, 0 ≤ z ∧ z < 2 ^ k.bits := fun z hz' => wf_nat hk (hwf z (List.mem_of_mem_take hz'))
    refine ⟨_, (zs.take len).map Int.toNat, cap, by rw [hlen], fun j x hj => ?_, by omega, hm, (fun e => by cases e), fun x hx => ?_⟩
    · have hjl : j < len := by have := (List.getElem?_eq_some_iff.1 hj).1; omega
      rw [List.getElem?_map] at hj
      obtain ⟨z, hz1, rfl⟩ := Option.map_eq_some_iff.1 hj
      have h1 := hcell j (by omega)
      have hz2 := hz1
      rw [List.getElem?_take, if_pos hjl] at hz2
      have hg : zs.getD j 0 = z := by simp [hz2]
      rw [hg] at h1
      obtain ⟨g, o, ha⟩ : ∃ g o, a' = ⟨g, o, none⟩ := by
        have h0 := hcell 0 (by omega)
        rw [show a'.add 0 = a' by simp [Addr.add]] at h0
        exact cell_plain h0
      subst ha
      refine ⟨g, o, rfl, ?_⟩
      rw [Addr.add_lit] at h1
      rw [h1, Int.toNat_of_nonneg (hnat z (List.mem_of_getElem? hz1)).1]
    · obtain ⟨z, hz1, rfl⟩ := List.mem_map.1 hx
      have := hnat z hz1
      have h2 : ((2 ^ k.bits : Nat) : Int) = (2 : Int) ^ k.bits := by simp
      omega
end Go.Proofs.Ytaaeooimalglaaa
