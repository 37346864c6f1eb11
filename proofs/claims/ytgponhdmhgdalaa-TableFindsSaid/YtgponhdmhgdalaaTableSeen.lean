/-
  The laws' own 'seen', at once; the laws' example. Over the program's own text.
-/
import Derived.Test.YtgponhdmhgdalaaTableKept
import Derived.Test.YtgponhdmhgdalaaMemB
namespace Go.Proofs.Ytgponhdmhgdalaa
open Go.RowKit

theorem heap_below {w : World} {o : Obj} {k : Nat} {x : Obj} (h : w.heap[k]? = some x) : (w.alloc o).heap[k]? = some x := (Below.heap_alloc _ _ _ (lt_of_heap h)).trans h
theorem heap_top {w : World} (o : Obj) {k : Nat} (h : k = w.heap.size) : (w.alloc o).heap[k]? = some o := by subst h; exact heap_alloc_new w o
theorem OwnS.far {w : World} {base : Nat} {v : Value} {l : List Sn} (h : OwnS w base v l) : ∃ oa cap, v = .slice oa l.length cap ∧ l.length ≤ cap ∧ cap ≤ maxLen ∧ ReadSn w oa l ∧ ∀ ad, oa = some ad → base ≤ ad.block := by
  obtain ⟨oa, cap, rfl, h1, h2, h3⟩ := sns_reads h
  refine ⟨oa, cap, rfl, h1, h2, h3, ?_⟩
  rintro ad rfl
  obtain ⟨_, ⟨h5, _⟩ | ⟨g, cap', cur, e, hg, _⟩⟩ := h
  · cases h5
  · injection e with e1 e2 e3
    injection e1 with e1
    rw [e1]
    exact hg
theorem readSn_new (w : World) (l : List Sn) (t : TypeId) : ReadSn (w.alloc (.cells (snsC l).toArray t)) (some ⟨w.heap.size, 0, none⟩) l := fun j x hj => by
  have h := snsC_get l j x hj
  have hb := heap_alloc_new w (.cells (snsC l).toArray t)
  refine ⟨w.heap.size, 0, rfl, ?_, ?_, ?_⟩
  · rw [cell_at hb]; simpa using h.1
  · rw [cell_at hb]; simpa using h.2.1
  · rw [cell_at hb]; simpa using h.2.2
/-- A memory, behind at most N accesses. -/
structure TM (mb cb : Nat) (cs : List Int) (N : Nat) (w : World) : Prop where
  mem : ∃ l s, MemAt w mb cb cs l s ∧ 0 ≤ l ∧ 0 ≤ s ∧ l + s ≤ N
  cells : ∀ y ∈ cs, U y
section
variable {mb cb : Nat} {cs : List Int} {N : Nat} {w w' : World}
theorem TM.mod (h : TM mb cb cs N w) {T : Nat → Prop} (hm : Mod T w w') (h1 : ¬ T mb) (h2 : ¬ T cb) : TM mb cb cs N w' := by
  obtain ⟨⟨l, s, hmem, a, b, c⟩, h3⟩ := h
  exact ⟨⟨l, s, hmem.mod hm h1 h2, a, b, c⟩, h3⟩
theorem TM.below (h : TM mb cb cs N w) (hb : Below w.heap.size w w') : TM mb cb cs N w' := by
  obtain ⟨⟨l, s, hmem, a, b, c⟩, h3⟩ := h
  exact ⟨⟨l, s, hmem.below hb, a, b, c⟩, h3⟩
theorem TM.more (h : TM mb cb cs N w) (M : Nat) (hM : N ≤ M) : TM mb cb cs M w := by
  obtain ⟨⟨l, s, hmem, a, b, c⟩, h3⟩ := h
  exact ⟨⟨l, s, hmem, a, b, by omega⟩, h3⟩
theorem TM.lt (h : TM mb cb cs N w) : mb < w.heap.size ∧ cb < w.heap.size := by
  obtain ⟨⟨l, s, hmem, _⟩, _⟩ := h
  exact ⟨lt_of_heap hmem.rec_, lt_of_heap hmem.row⟩
theorem TM.new (C : Nat) (h : MemAt w mb cb (List.replicate C 0) 0 0) : TM mb cb (List.replicate C 0) 0 w := ⟨⟨0, 0, h, by omega, by omega, by omega⟩, fun y hy => by rw [(List.mem_replicate.1 hy).2]; exact u_zero⟩
theorem TM.whole {α : Type} (h : TM mb cb cs N w) (hN : N ≤ 90000000) {cs' : List Int} {F : FuncId} {caps : Array Value} {S : Nat → Prop} {I : World → Prop} {p : Pr α} {Post : α → World → Prop} {x : α} {n : Nat} (hd : Does p cs n x cs')
    (hC : ∀ rb, w.heap.size ≤ rb → Clo F caps rb mb cb S I p Post 200000000) (hI : I w) (hS : ∀ k, S k → k < w.heap.size ∧ k ≠ mb ∧ k ≠ cb) (hn : n ≤ 40000) :
    Calls Try.prog 10 #[.pointer (some ⟨mb, 0, none⟩), .func (.func F) #[] caps] w fun e w' => e = .returned (.bool true) ∧ TM mb cb cs' (N + n) w' ∧ I w' ∧ Post x w' ∧ Mod (Own S mb cb) w w' := by
  obtain ⟨⟨l, s, hmem, a, b, c⟩, h3⟩ := h
  refine (whole_at hmem a b h3 hd hC hI hS (by omega) (by omega) (by omega)).mono ?_
  rintro e w' ⟨rfl, ⟨l', s', hm', a', b', c'⟩, hcu, hI', hP, hm⟩
  exact ⟨rfl, ⟨⟨l', s', hm', a', b', by omega⟩, hcu⟩, hI', hP, hm⟩
end
theorem low_mod {W wr w' : World} {T : Nat → Prop} (h : Below W.heap.size W wr) (hm : Mod T wr w') (hT : ∀ k, T k → W.heap.size ≤ k) : Below W.heap.size W w' :=
  ⟨hm.os.trans h.os, hm.tape.trans h.tape, hm.output.trans h.output, Nat.le_trans h.size hm.size, fun b hlt => (hm.block b (Nat.lt_of_lt_of_le hlt h.size) (fun e => by have := hT _ e; omega)).trans (h.block b hlt)⟩

/-! ### Seen -/
structure SnI (bb bn bv bl : Nat) (b n v : Int) (w : World) : Prop where
  b : w.heap[bb]? = some (.cells #[.int .i64 b] 3 (0, 0))
  n : w.heap[bn]? = some (.cells #[.int .i64 n] 3 (0, 0))
  v : w.heap[bv]? = some (.cells #[.int .u32 v] 28 (0, 0))
  l : ∃ x, w.heap[bl]? = some (.cells #[x] 34 (0, 0))
def SnS (bb bn bv bl : Nat) (k : Nat) : Prop := k = bb ∨ k = bn ∨ k = bv ∨ k = bl
def SnQ (W0 bl : Nat) (ls : List Sn) (w : World) : Prop := ∃ oa c, w.heap[bl]? = some (.cells #[.slice oa ls.length c] 34 (0, 0)) ∧ ls.length ≤ c ∧ c ≤ maxLen ∧ ReadSn w oa ls ∧ ∀ ad, oa = some ad → W0 ≤ ad.block
theorem SnI.of_blocks {bb bn bv bl : Nat} {b n v : Int} {w w' : World} (h : SnI bb bn bv bl b n v w) (hb : ∀ k, SnS bb bn bv bl k → k < w.heap.size → w'.heap[k]? = w.heap[k]?) : SnI bb bn bv bl b n v w' :=
  ⟨(hb _ (.inl rfl) (lt_of_heap h.b)).trans h.b, (hb _ (.inr (.inl rfl)) (lt_of_heap h.n)).trans h.n, (hb _ (.inr (.inr (.inl rfl))) (lt_of_heap h.v)).trans h.v, by obtain ⟨x, hx⟩ := h.l; exact ⟨x, (hb _ (.inr (.inr (.inr rfl))) (lt_of_heap hx)).trans hx⟩⟩
theorem readSn_keep {w w' : World} {oa : Option Addr} {l : List Sn} (h : ReadSn w oa l) {T : Nat → Prop} (hm : Mod T w w') (hT : ∀ (j : Nat) (x : Sn) (g o : Nat), l[j]? = some x → oa = some ⟨g, o, none⟩ → g < w.heap.size → ¬ T g) : ReadSn w' oa l := fun j x hj => by
  obtain ⟨g, o, e, h1, h2, h3⟩ := h j x hj
  have hne := hT j x g o hj e (lt_of_cell h1)
  have hb := hm.block g (lt_of_cell h1) hne
  exact ⟨g, o, e, (World.cell?_of_block hb).trans h1, (World.cell?_of_block hb).trans h2, (World.cell?_of_block hb).trans h3⟩
set_option maxRecDepth 100000 in
set_option maxHeartbeats 1000000 in
theorem Sn_clo {rowP : Int → Int → Pr R4} {seenP : Int → Int → Int → Pr (List Sn)} {findP : Int → Int → Int → Pr Int} (K : KeptTable rowP seenP findP) {b n v : Int} (b0 : 0 ≤ b) (b1 : b ≤ 1000) (n0 : 0 ≤ n) (n1 : n ≤ 1000) (hv : U v) (bb bn bv bl W0 rb mb cb Bd : Nat) (hB : Bd < 1000000000) (hrb : bb < rb ∧ bn < rb ∧ bv < rb ∧ bl < rb) (hne : bb ≠ bl ∧ bn ≠ bl ∧ bv ≠ bl) (hW : W0 ≤ rb) :
    Clo 23 #[.pointer (some ⟨bb, 0, none⟩), .pointer (some ⟨bn, 0, none⟩), .pointer (some ⟨bv, 0, none⟩), .pointer (some ⟨bl, 0, none⟩)] rb mb cb (SnS bb bn bv bl) (SnI bb bn bv bl b n v) (seenP b n v) (SnQ W0 bl) Bd where
  enter := fun args w => rfl
  keepI := fun w w' h _ hb => h.of_blocks hb
  keepP := fun x w w' go st h hr hm => by
    obtain ⟨oa, c, a1, a2, a3, a5, a6⟩ := h
    refine ⟨oa, c, (hm.block bl (lt_of_heap a1) (by omega)).trans a1, a2, a3, readSn_keep a5 hm ?_, a6⟩
    intro j y g o hj e _ he
    subst he
    obtain ⟨g', o', e', _, hc, _⟩ := a5 j y hj
    rw [e] at e'
    cases e'
    obtain ⟨cap, hrun⟩ := hr.run
    rw [cell_at hrun.rec_] at hc
    have h8 : o + j * 3 + 1 < 8 := by
      have := (Array.getElem?_eq_some_iff.1 hc).1
      simpa using this
    rcases (show o + j * 3 + 1 = 1 ∨ o + j * 3 + 1 = 2 ∨ o + j * 3 + 1 = 3 ∨ o + j * 3 + 1 = 4 ∨ o + j * 3 + 1 = 5 ∨ o + j * 3 + 1 = 6 ∨ o + j * 3 + 1 = 7 by omega) with e | e | e | e | e | e | e <;> rw [e] at hc <;> simp at hc
  old := fun w h k hk => by
    rcases hk with rfl | rfl | rfl | rfl
    · exact lt_of_heap h.b
    · exact lt_of_heap h.n
    · exact lt_of_heap h.v
    · obtain ⟨x, hx⟩ := h.l; exact lt_of_heap hx
  call := fun w go st hrm hfine hoff hI hS => by
    obtain ⟨x0, hl⟩ := hI.l
    have HI := Lib.hid hI
    have HL := Lib.hid hl
    have cb_ := cell_at hI.b 0
    have cn := cell_at hI.n 0
    have cv := cell_at hI.v 0
    have HK := Lib.hid (K.seen b n v hrm hfine hB b0 (by omega) n0 (by omega) hv)
    have HS := Lib.hid hS
    have HW := Lib.hid (show rb < w.heap.size from hrm.lt rb (.inl rfl))
    have HN := Lib.hid (And.intro hne (And.intro hrb hW))
    clear hI hl hrm hfine hoff hS hB b0 b1 n0 n1 hv hne hrb hW
    show Calls Try.prog 23 #[.pointer (some ⟨rb, 0, none⟩), .pointer (some ⟨bb, 0, none⟩), .pointer (some ⟨bn, 0, none⟩), .pointer (some ⟨bv, 0, none⟩), .pointer (some ⟨bl, 0, none⟩)] w _
    go_enter Try.func23, Try.ntmps23
    go_wp2_with fail
    refine HK.out.mono ?_
    clear HK
    rintro e w1 ⟨vv, l, go', rfl, hown, hrm1, hadv, hans⟩
    obtain ⟨oa, c, rfl, q1, q2, q3, q4⟩ := hown.far
    clear hown
    have hb : ∀ k, SnS bb bn bv bl k → k < w.heap.size → w1.heap[k]? = w.heap[k]? := fun k hk hlt => hadv.mod.block k hlt fun e => HS.out k hk e
    have hI1 := HI.out.of_blocks hb
    have hl1 := (hb bl (.inr (.inr (.inr rfl))) (lt_of_heap HL.out)).trans HL.out
    have kl := cell_at hl1 0
    have fl := free_at hl1 0
    have HL1 := Lib.hid hl1
    have HI1 := Lib.hid hI1
    have HA := Lib.hid (And.intro hrm1 (And.intro hadv (And.intro hans (And.intro q1 (And.intro q2 (And.intro q3 q4))))))
    clear hb hI1 hl1 hrm1 hadv hans q1 q2 q3 q4 cb_ cn cv
    go_wp2_with fail
    go_end0
    obtain ⟨hrm1, hadv, hans, q1, q2, q3, q4⟩ := HA.out
    obtain ⟨⟨n1, n2, n3⟩, _, hW⟩ := HN.out
    have hm : Mod (SnS bb bn bv bl) w1 (World.setCell w1 ⟨bl, 0, none⟩ (.slice oa l.length c)) := Mod.setCell (S := SnS bb bn bv bl) (Mod.refl _ _) (.inr (.inr (.inr (.inr rfl)))) _
    have hlz := lt_of_heap HL.out
    have hfar : ∀ k, Feet rb mb cb go' k → ¬ SnS bb bn bv bl k := fun k hk hs => (hadv.advS (fun _ => False)).apart (show k < w.heap.size by
      have h := HI.out
      rcases hs with rfl | rfl | rfl | rfl
      · exact lt_of_heap h.b
      · exact lt_of_heap h.n
      · exact lt_of_heap h.v
      · exact hlz) (HS.out k hs) hk
    have hbl : (World.setCell w1 ⟨bl, 0, none⟩ (.slice oa l.length c)).heap[bl]? = some (.cells #[.slice oa l.length c] 34 (0, 0)) := by rw [heap_setCell_same _ _ _ _ _ _ HL1.out]; rfl
    refine ⟨rfl, go', hrm1.mod hm hfar, (hadv.advS _).trans (AdvS.of_mod hm fun k hk => .inl hk), ⟨(Below.heap_setCell _ _ _ _ n1).trans HI1.out.b, (Below.heap_setCell _ _ _ _ n2).trans HI1.out.n, (Below.heap_setCell _ _ _ _ n3).trans HI1.out.v, ⟨_, hbl⟩⟩, ?_⟩
    intro y hy
    rw [← hans y hy]
    have hwr := HW.out
    refine ⟨oa, c, hbl, q1, q2, ?_, fun ad had => by have := q4 ad had; omega⟩
    refine readSn_keep q3 (T := fun k => k = bl) (Mod.setCell (S := fun k => k = bl) (Mod.refl _ _) (.inr rfl) _) ?_
    intro j x g o _ e _ e2
    have := q4 _ e
    simp only at this
    omega
set_option maxRecDepth 100000 in
set_option maxHeartbeats 1000000 in
theorem seen_at {rowP : Int → Int → Pr R4} {seenP : Int → Int → Int → Pr (List Sn)} {findP : Int → Int → Int → Pr Int} (K : KeptTable rowP seenP findP) {mb cb : Nat} {cs : List Int} {N : Nat} {W : World} (h : TM mb cb cs N W) (hN : N ≤ 80000000) (b : Int) (n : Nat) (v : Int) (b0 : 0 ≤ b) (b1 : b ≤ 1000) (n1 : n ≤ 16) (hv : U v) (hl : b + 4 * (n : Int) ≤ cs.length) (L : List Sn) (hL : seenZ cs b n v = L) (q : Nat) (hq : L.length = q) :
    Calls Try.prog 8 #[.pointer (some ⟨mb, 0, none⟩), .int .i64 b, .int .i64 (n : Int), .int .u32 v] W fun e w' => Mod (fun k => k = mb ∨ k = cb) W w' ∧ TM mb cb cs (N + 200) w' ∧ ∃ oa c, e = .returned (.tuple #[.slice oa q c, .bool true]) ∧ q ≤ c ∧ c ≤ maxLen ∧ ReadSn w' oa L ∧ ∀ ad, oa = some ad → W.heap.size ≤ ad.block := by
  subst hL hq
  obtain ⟨m, hm, hd⟩ := K.seenD cs b n v b0 hl
  obtain ⟨hmb, hcb⟩ := h.lt
  obtain ⟨W4, hW4⟩ : ∃ W4, W4 = (((W.alloc (.cells #[.int .i64 b] 3)).alloc (.cells #[.int .i64 (n : Int)] 3)).alloc (.cells #[.int .u32 v] 28)).alloc (.cells #[.slice none 0 0] 34) := ⟨_, rfl⟩
  have hB : Below W.heap.size W W4 := by rw [hW4]; exact below_al4
  have hI : SnI W.heap.size (W.heap.size + 1) (W.heap.size + 2) (W.heap.size + 3) b (n : Int) v W4 := by
    rw [hW4]
    exact ⟨heap_below (heap_below (heap_below (heap_top _ rfl))), heap_below (heap_below (heap_top _ (by simp))), heap_below (heap_top _ (by simp)), ⟨_, heap_top _ (by simp)⟩⟩
  have hz : W4.heap.size = W.heap.size + 4 := by rw [hW4]; simp
  have hK := (h.below hB).whole (by omega) hd (fun rb hrb => Sn_clo K b0 b1 (by omega) (by omega) hv W.heap.size (W.heap.size + 1) (W.heap.size + 2) (W.heap.size + 3) W.heap.size rb mb cb 200000000 (by omega) (by omega) (by omega) (by omega)) hI (fun k hk => by
    unfold SnS at hk
    omega) (by omega)
  have HK := Lib.hid hK
  have HB := Lib.hid (And.intro hB (And.intro hm (And.intro hmb (And.intro hcb hz))))
  clear hK hI hd h K hB hm hmb hcb hz hv hl
  go_enter Try.func8, Try.ntmps8
  go_wp2_with fail
  rw [← hW4]
  clear hW4
  refine HK.out.mono ?_
  clear HK
  rintro e w2 ⟨rfl, hT, hI2, ⟨oa, c, q1, q2, q3, q5, q6⟩, hmod⟩
  have e5 : w2.cell? ⟨W.heap.size + 1 + 1 + 1, 0, none⟩ = some (.slice oa (seenZ cs b n v).length c) := cell_at q1 0
  have HQ := Lib.hid (And.intro q2 (And.intro q3 (And.intro q5 q6)))
  have HT := Lib.hid (And.intro hT hmod)
  clear hT hI2 q1 q2 q3 q5 q6 hmod
  go_wp2_with fail
  obtain ⟨q2, q3, q5, q6⟩ := HQ.out
  obtain ⟨hT, hmod⟩ := HT.out
  obtain ⟨hB, hm, hmb, hcb, hz⟩ := HB.out
  refine bodyPost_ret (v := .tuple #[.slice oa (seenZ cs b n v).length c, .bool true]) (by simp [results, Try.results8, go_sem]) rfl ⟨?_, hT.more _ (by omega), oa, c, rfl, q2, q3, q5, q6⟩
  exact (Below.mod hB (fun k => k = mb ∨ k = cb) fun k hk hk' => by omega).then hmod (by
    rintro k hk (e | e | e)
    · unfold SnS at e; omega
    · exact .inl e
    · exact .inr e)
end Go.Proofs.Ytgponhdmhgdalaa
