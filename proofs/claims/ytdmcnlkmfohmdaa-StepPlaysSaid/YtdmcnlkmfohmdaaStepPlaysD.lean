/-
  A list of lists of instructions that comes in; what rows of runs and of programs hold while they grow.
-/
import Derived.Test.YtdmcnlkmfohmdaaStepPlaysC
import Derived.Test.YtdmcnlkmfohmdaaStepArgs
import Derived.Test.YtdmcnlkmfohmdaaStepApartB
namespace Go.Proofs.Ytdmcnlkmfohmdaa
open Go.ChangeShapes Go.WideShapes Go.ChangeAt Go.RowKit Go.Deep

/-- One of the lists. -/
structure Lst where
  ao : Option Addr
  len : Nat
  cap : Nat
  E : Nat → Ins
instance : Inhabited Lst := ⟨⟨none, 0, 0, default⟩⟩
/-- A list of lists in memory. -/
structure ListsAt (W : World) (ao : Option Addr) (len : Nat) (A : Nat → Lst) : Prop where
  cell : ∀ i, i < len → ∃ b off, ao = some ⟨b, off, none⟩ ∧ b < W.heap.size ∧ W.cell? ⟨b, off + i, none⟩ = some (.slice (A i).ao (A i).len (A i).cap) ∧ InsAt W (· < W.heap.size) (A i).ao (A i).len (A i).E ∧ (A i).len ≤ (A i).cap ∧ (A i).cap ≤ maxLen

theorem open_lists {H : Type} {enc : TypeId × Value → H} {W : World} {v : Value} {d : DataW H} {p : List MemPlace} {base : Nat}
    (hv : Value.okWide Try.prog W .any base 22 v) (h : DataW.Trod enc Try.prog W 0 (fun _ => true) true 22 v d p) :
    ∃ ao len cap A, v = .slice ao len cap ∧ ListsAt W ao len A ∧ len ≤ maxLen := by
  obtain ⟨a, len, cap, rfl⟩ := okWide_slice Try.underlying22 hv
  obtain ⟨fuel, hf⟩ := h
  rcases open_slice1 Try.underlying22 (by kernel_rfl) hf with ⟨hcs, _⟩ | ⟨a', len', cap', m, n, V, D, Pl, hcs, _, hl, hm, hmm, _, hi⟩
  · simp only [Value.cells, List.cons.injEq, and_true, Value.slice.injEq] at hcs
    obtain ⟨rfl, rfl, rfl⟩ := hcs
    exact ⟨_, _, _, default, rfl, ⟨fun i hi => by omega⟩, by simp [maxLen]⟩
  · simp only [Value.cells, List.cons.injEq, and_true, Value.slice.injEq] at hcs
    obtain ⟨rfl, rfl, rfl⟩ := hcs
    simp only [if_true] at hmm
    subst hmm
    obtain ⟨A, hA⟩ := choose_lt (α := Lst) (n := len) (p := fun i x => ∃ b off, (some a' : Option Addr) = some ⟨b, off, none⟩ ∧ b < W.heap.size ∧ W.cell? ⟨b, off + i, none⟩ = some (.slice x.ao x.len x.cap) ∧ InsAt W (· < W.heap.size) x.ao x.len x.E ∧ x.len ≤ x.cap ∧ x.cap ≤ maxLen) (fun i him => by
      obtain ⟨hc, ht⟩ := hi i (by omega)
      obtain ⟨ao, l, c, E, e, hI, h1, h2⟩ := trod_ins ht
      simp only [List.cons.injEq, and_true] at e
      rw [e] at hc
      obtain ⟨b, off, sp⟩ := a'
      have hs1 : sp = none := by
        obtain ⟨hc0, _⟩ := hi 0 (by omega)
        rw [Addr.add_zero'] at hc0
        exact plain_of_cell hc0
      subst hs1
      rw [Addr.add_lit] at hc
      exact ⟨⟨ao, l, c, E⟩, b, off, rfl, lt_of_cell hc, hc, hI, h1, h2⟩)
    exact ⟨_, _, _, A, rfl, ⟨hA⟩, by omega⟩

/-- A list's program at its beginning. -/
def prog0 (x : Lst) : PS := ⟨x.ao, min x.len 60, x.cap, 0, 0, false, 0, 0⟩
def ptrCells (n : Nat) (rb : Nat → Nat) : List Value := (List.range n).map fun j => .pointer (some ⟨rb j, 0, none⟩)
def wantCells (n : Nat) (p : Nat → PS) : List Value := (List.range n).flatMap fun j => (progC (p j)).toList
theorem ptrCells_succ (n : Nat) (rb : Nat → Nat) : ptrCells (n + 1) rb = ptrCells n rb ++ [.pointer (some ⟨rb n, 0, none⟩)] := by simp [ptrCells, List.range_succ]
theorem wantCells_succ (n : Nat) (p : Nat → PS) : wantCells (n + 1) p = wantCells n p ++ (progC (p n)).toList := by simp [wantCells, List.range_succ]
theorem ptrCells_congr {n : Nat} {rb rb' : Nat → Nat} (h : ∀ j, j < n → rb j = rb' j) : ptrCells n rb = ptrCells n rb' := by
  unfold ptrCells
  apply List.map_congr_left
  intro j hj
  rw [h j (List.mem_range.1 hj)]
theorem wantCells_length (n : Nat) (p : Nat → PS) : (wantCells n p).length = n * 6 := by
  induction n with
  | zero => rfl
  | succ n ih => rw [wantCells_succ, List.length_append, ih]; simp [progC]; omega
theorem wantCells_get (n : Nat) (p : Nat → PS) (j : Nat) (hj : j < n) (t : Nat) (ht : t < 6) : (wantCells n p)[j * 6 + t]? = (progC (p j))[t]? := by
  induction n with
  | zero => omega
  | succ n ih =>
    rw [wantCells_succ]
    by_cases e : j < n
    · rw [List.getElem?_append_left (by rw [wantCells_length]; omega)]
      exact ih e
    · obtain rfl : j = n := by omega
      rw [List.getElem?_append_right (by rw [wantCells_length]; omega), wantCells_length, show j * 6 + t - j * 6 = t by omega]
      simp
theorem ptrs_of_owns {w : World} {base n : Nat} {v : Value} {rb : Nat → Nat} (h : w.ownsRow base 33 1 v n (ptrCells n rb)) (h0 : 0 < n) : ∃ ub cap, v = .slice (some ⟨ub, 0, none⟩) n cap ∧ base ≤ ub ∧ PtrsAt w ub n rb := by
  obtain ⟨_, h | ⟨g, cap, cur, h1, h2, h3, h4, h5, h6, h7⟩⟩ := h
  · omega
  · refine ⟨g, cap, h1, h2, cur, h3, fun j hj => ?_⟩
    have : (cur.toList.take (n * 1))[j]? = (ptrCells n rb)[j]? := by rw [h7]
    rw [List.getElem?_take_of_lt (by omega)] at this
    simpa [ptrCells, hj] using this
theorem want_of_owns {w : World} {base n : Nat} {v : Value} {p : Nat → PS} (h : w.ownsRow base 38 6 v n (wantCells n p)) (h0 : 0 < n) : ∃ vb cap, v = .slice (some ⟨vb, 0, none⟩) n cap ∧ base ≤ vb ∧ WantAt w vb n p := by
  obtain ⟨_, h | ⟨g, cap, cur, h1, h2, h3, h4, h5, h6, h7⟩⟩ := h
  · omega
  · refine ⟨g, cap, h1, h2, cur, h3, fun j hj t ht => ?_⟩
    have : (cur.toList.take (n * 6))[j * 6 + t]? = (wantCells n p)[j * 6 + t]? := by rw [h7]
    rw [List.getElem?_take_of_lt (by omega), wantCells_get n p j hj t ht] at this
    simpa using this
theorem info_ptr : (Try.prog.info? 33).map (fun i => (i.zero, i.size, i.bytes)) = some (some (.pointer none), 1, 8) := by kernel_rfl
theorem info_prog : (Try.prog.info? 38).map (fun i => (i.zero, i.size, i.bytes)) = some (some (.agg #[.slice none 0 0, .int .i64 0, .int .u32 0, .bool false, .int .i64 0, .int .i64 0]), 6, 56) := by kernel_rfl

theorem new_row_cells (w : World) (cs : Array Value) (t : TypeId) : ∀ (j : Nat) (u : Value), cs.toList[j]? = some u → (w.alloc (.cells cs t)).cell? ((⟨w.heap.size, 0, none⟩ : Addr).add j) = some u := by
  intro j u hj
  rw [Addr.add_lit, Nat.zero_add, cell_at (heap_alloc_new w _)]
  simpa using hj
theorem want_cells {w : World} {vb k : Nat} {cur : Array Value} {p : PS} (h : w.heap[vb]? = some (.cells cur 38 (0, 0))) (hc : ∀ t, t < 6 → cur[k * 6 + t]? = (progC p)[t]?) :
    ∃ o0 o1 o2 o3 o4 o5 : Value, w.cell? ⟨vb, k * 6, none⟩ = some o0 ∧ w.cell? ⟨vb, k * 6 + 1, none⟩ = some o1 ∧ w.cell? ⟨vb, k * 6 + 2, none⟩ = some o2 ∧ w.cell? ⟨vb, k * 6 + 3, none⟩ = some o3 ∧ w.cell? ⟨vb, k * 6 + 4, none⟩ = some o4 ∧ w.cell? ⟨vb, k * 6 + 5, none⟩ = some o5 :=
  ⟨_, _, _, _, _, _, (cell_at h _).trans (hc 0 (by omega)), (cell_at h _).trans (hc 1 (by omega)), (cell_at h _).trans (hc 2 (by omega)), (cell_at h _).trans (hc 3 (by omega)), (cell_at h _).trans (hc 4 (by omega)), (cell_at h _).trans (hc 5 (by omega))⟩
/-- Behind i lists. -/
structure Grow (W w : World) (mb cb gb kk i : Nat) (rb : Nat → Nat) (p : Nat → PS) (v10 v11 : Value) : Prop where
  low : Below W.heap.size W w
  mem : MemAt w mb cb (List.replicate kk 0) 0 0
  run : ∀ j, j < i → RunAt w (rb j) mb none 0 [] 0 false false false false 0
  ptr : w.ownsRow W.heap.size 33 1 v10 i (ptrCells i rb)
  want : w.ownsRow W.heap.size 38 6 v11 i (wantCells i p)
  row : RowAt w gb (List.replicate kk 0) kk
  gbcb : gb ≠ cb
  apart : ∀ a b, a < i → b < i → a ≠ b → rb a ≠ rb b
  ge : W.heap.size ≤ mb ∧ W.heap.size ≤ cb ∧ W.heap.size ≤ gb
  feet : ∀ j, j < i → W.heap.size ≤ rb j
section
variable {W w w' : World} {mb cb gb kk i : Nat} {rb : Nat → Nat} {p : Nat → PS} {v10 v11 : Value}
theorem owns_below {e : TypeId} {size n base : Nat} {v : Value} {xs : List Value} (h : w.ownsRow base e size v n xs) (hb : Below w.heap.size w w') : w'.ownsRow base e size v n xs := by
  obtain ⟨h0, h | ⟨g, cap, cur, h1, h2, h3, h4⟩⟩ := h
  · exact ⟨h0, .inl h⟩
  · exact ⟨h0, .inr ⟨g, cap, cur, h1, h2, (hb.block _ (lt_of_heap h3)).trans h3, h4⟩⟩
theorem Grow.below (h : Grow W w mb cb gb kk i rb p v10 v11) (hb : Below w.heap.size w w') : Grow W w' mb cb gb kk i rb p v10 v11 :=
  ⟨h.low.trans (hb.mono h.low.size), h.mem.below hb, fun j hj => (h.run j hj).below hb, owns_below h.ptr hb, owns_below h.want hb, h.row.below hb, h.gbcb, h.apart, h.ge, h.feet⟩
/-- Where only an owned row grows, all else stays. -/
theorem grown_block {row : Option Nat} (hg : w.grownBy w' row) {b : Nat} {cs : Array Value} {t : TypeId} (hb : w.heap[b]? = some (.cells cs t (0, 0))) (hr : row ≠ some b) : w'.heap[b]? = some (.cells cs t (0, 0)) :=
  (hg.block b (lt_of_heap hb) (fun e => hr e.symm)).trans hb
theorem owns_ne {e : TypeId} {size n base : Nat} {v : Value} {xs : List Value} (h : w.ownsRow base e size v n xs) {b : Nat} {cs : Array Value} {t : TypeId} (hb : w.heap[b]? = some (.cells cs t (0, 0))) (hne : e ≠ t) : v.ownBlock ≠ some b := by
  rcases h.2 with ⟨rfl, _⟩ | ⟨g, cap, cur, rfl, _, hg, _⟩
  · simp [Value.ownBlock]
  · intro hh
    simp [Value.ownBlock] at hh
    subst hh
    rw [hg] at hb
    simp at hb
    exact hne hb.2
theorem owns_grown {e e2 : TypeId} {size n base size2 n2 base2 : Nat} {v v2 : Value} {xs xs2 : List Value} (h : w.ownsRow base e size v n xs) (h2 : w.ownsRow base2 e2 size2 v2 n2 xs2) (hne : e2 ≠ e) (hg : w.grownBy w' v2.ownBlock) : w'.ownsRow base e size v n xs := by
  refine h.kept hg ?_
  rcases h.2 with ⟨rfl, _⟩ | ⟨g, cap, cur, rfl, _, hgg, _⟩
  · exact .inl rfl
  · exact .inr fun e' => owns_ne h2 hgg hne (e'.symm.trans (by simp [Value.ownBlock]))
/-- A run more. -/
theorem Grow.more1 (h : Grow W w mb cb gb kk i rb p v10 v11) {r : Nat} {v' : Value} (hr : RunAt w r mb none 0 [] 0 false false false false 0) (hW : W.heap.size ≤ r) (hne : ∀ j, j < i → rb j ≠ r)
    (ho : w'.ownsRow W.heap.size 33 1 v' (i + 1) (ptrCells i rb ++ [.pointer (some ⟨r, 0, none⟩)])) (hg : w.grownBy w' v10.ownBlock) :
    Below W.heap.size W w' ∧ MemAt w' mb cb (List.replicate kk 0) 0 0 ∧ (∀ j, j < i + 1 → RunAt w' (upd rb i r j) mb none 0 [] 0 false false false false 0) ∧ w'.ownsRow W.heap.size 33 1 v' (i + 1) (ptrCells (i + 1) (upd rb i r)) ∧
      w'.ownsRow W.heap.size 38 6 v11 i (wantCells i p) ∧ RowAt w' gb (List.replicate kk 0) kk ∧ (∀ a b, a < i + 1 → b < i + 1 → a ≠ b → upd rb i r a ≠ upd rb i r b) ∧ (∀ j, j < i + 1 → W.heap.size ≤ upd rb i r j) := by
  refine ⟨h.low.grown hg h.low.size (fun k hk => (h.ptr.lt k hk).1), ⟨grown_block hg h.mem.rec_ (owns_ne h.ptr h.mem.rec_ (by decide)), grown_block hg h.mem.row (owns_ne h.ptr h.mem.row (by decide))⟩, fun j hj => ?_, ?_, owns_grown h.want h.ptr (by decide) hg, ⟨grown_block hg h.row.row (owns_ne h.ptr h.row.row (by decide)), h.row.len, h.row.u⟩, ?_, ?_⟩
  · by_cases e : j = i
    · subst e; rw [upd_same]
      exact ⟨grown_block hg hr.rec_ (owns_ne h.ptr hr.rec_ (by decide)), hr.row⟩
    · rw [upd_other _ _ e]
      have := h.run j (by omega)
      exact ⟨grown_block hg this.rec_ (owns_ne h.ptr this.rec_ (by decide)), this.row⟩
  · rw [ptrCells_succ, upd_same, ptrCells_congr (rb' := rb) fun j hj => upd_other _ _ (by omega)]
    exact ho
  · intro a b ha hb hab
    by_cases ea : a = i
    · subst ea; rw [upd_same, upd_other _ _ (Ne.symm hab)]
      exact (hne b (by omega)).symm
    · rw [upd_other _ _ ea]
      by_cases eb : b = i
      · subst eb; rw [upd_same]; exact hne a (by omega)
      · rw [upd_other _ _ eb]; exact h.apart a b (by omega) (by omega) hab
  · intro j hj
    by_cases e : j = i
    · subst e; rw [upd_same]; exact hW
    · rw [upd_other _ _ e]; exact h.feet j (by omega)
/-- A program more. -/
theorem grow_more2 {v' : Value} (h1 : Below W.heap.size W w) (h2 : MemAt w mb cb (List.replicate kk 0) 0 0) (h3 : ∀ j, j < i + 1 → RunAt w (rb j) mb none 0 [] 0 false false false false 0) (h4 : w.ownsRow W.heap.size 33 1 v10 (i + 1) (ptrCells (i + 1) rb))
    (h5 : w.ownsRow W.heap.size 38 6 v11 i (wantCells i p)) (h6 : RowAt w gb (List.replicate kk 0) kk) (h7 : ∀ a b, a < i + 1 → b < i + 1 → a ≠ b → rb a ≠ rb b) (h8 : ∀ j, j < i + 1 → W.heap.size ≤ rb j) (gc : gb ≠ cb) (ge : W.heap.size ≤ mb ∧ W.heap.size ≤ cb ∧ W.heap.size ≤ gb)
    (ho : w'.ownsRow W.heap.size 38 6 v' (i + 1) (wantCells i p ++ (progC (p i)).toList)) (hg : w.grownBy w' v11.ownBlock) : Grow W w' mb cb gb kk (i + 1) rb p v10 v' :=
  ⟨h1.grown hg h1.size (fun k hk => (h5.lt k hk).1), ⟨grown_block hg h2.rec_ (owns_ne h5 h2.rec_ (by decide)), grown_block hg h2.row (owns_ne h5 h2.row (by decide))⟩, fun j hj => ⟨grown_block hg (h3 j hj).rec_ (owns_ne h5 (h3 j hj).rec_ (by decide)), (h3 j hj).row⟩,
    owns_grown h4 h5 (by decide) hg, by rw [wantCells_succ]; exact ho, ⟨grown_block hg h6.row (owns_ne h5 h6.row (by decide)), h6.len, h6.u⟩, gc, h7, ge, h8⟩
theorem grow_more2' {v' : Value} {o : Obj} (h : Below W.heap.size W w ∧ MemAt w mb cb (List.replicate kk 0) 0 0 ∧ (∀ j, j < i + 1 → RunAt w (rb j) mb none 0 [] 0 false false false false 0) ∧ w.ownsRow W.heap.size 33 1 v10 (i + 1) (ptrCells (i + 1) rb) ∧
    w.ownsRow W.heap.size 38 6 v11 i (wantCells i p) ∧ RowAt w gb (List.replicate kk 0) kk ∧ (∀ a b, a < i + 1 → b < i + 1 → a ≠ b → rb a ≠ rb b) ∧ (∀ j, j < i + 1 → W.heap.size ≤ rb j)) (gc : gb ≠ cb ∧ W.heap.size ≤ mb ∧ W.heap.size ≤ cb ∧ W.heap.size ≤ gb)
    (ho : w'.ownsRow W.heap.size 38 6 v' (i + 1) (wantCells i p ++ (progC (p i)).toList)) (hg : (w.alloc o).grownBy w' v11.ownBlock) : Grow W w' mb cb gb kk (i + 1) rb p v10 v' := by
  obtain ⟨h1, h2, h3, h4, h5, h6, h7, h8⟩ := h
  have hb : Below w.heap.size w (w.alloc o) := below_one
  exact grow_more2 (h1.trans (hb.mono h1.size)) (h2.below hb) (fun j hj => (h3 j hj).below hb) (owns_below h4 hb) (owns_below h5 hb) (h6.below hb) h7 h8 gc.1 gc.2 ho hg
theorem owns_slice {e : TypeId} {size n base : Nat} {v : Value} {xs : List Value} (h : w.ownsRow base e size v n xs) : ∃ ao cap, v = .slice ao n cap := by
  obtain ⟨_, ⟨h1, h2⟩ | ⟨g, cap, cur, h1, _⟩⟩ := h
  · exact ⟨none, 0, by rw [h1, h2]⟩
  · exact ⟨_, _, h1⟩
/-- Behind the lists: what the turns begin with. -/
def Ready (W w : World) (mb cb gb kk len : Nat) (A : Nat → Lst) (v10 v11 : Value) : Prop :=
  ∃ (i : Nat) (rb : Nat → Nat) (ao1 : Option Addr) (c1 : Nat) (ao2 : Option Addr) (c2 : Nat), i ≤ 4 ∧ i ≤ len ∧ v10 = .slice ao1 i c1 ∧ v11 = .slice ao2 i c2 ∧ Grow W w mb cb gb kk i rb (fun j => prog0 (A j)) (.slice ao1 i c1) (.slice ao2 i c2)
theorem Grow.ready {len : Nat} {A : Nat → Lst} (h : Grow W w mb cb gb kk i rb (fun j => prog0 (A j)) v10 v11) (h4 : i ≤ 4) (hl : i ≤ len) : Ready W w mb cb gb kk len A v10 v11 := by
  obtain ⟨ao1, c1, rfl⟩ := owns_slice h.ptr
  obtain ⟨ao2, c2, rfl⟩ := owns_slice h.want
  exact ⟨i, rb, ao1, c1, ao2, c2, h4, hl, rfl, rfl, h⟩
end
end Go.Proofs.Ytdmcnlkmfohmdaa
