/-
  What the program's functions of layer 9 keep, as the laws' walks take it; the laws' closures keep to their programs, given that. Over the program's own text.
-/
import Derived.Test.YtiabmbkmahlhkaaPostWhole
import Derived.Test.YtiabmbkmahlhkaaPostPure
import Derived.Test.YtiabmbkmahlhkaaNums
namespace Go.Proofs.Ytiabmbkmahlhkaa
open Go.RowKit

/-- How many cells of each pool n words take, so many cells being left in the slab, and the next one's class. -/
def needS : Nat → Int → Nat → Nat → Int
  | 0, _, _, _ => 0
  | n + 1, l, k, j => if l = 0 then (if j = k then slab k else 0) + needS n (slab k - 2) (up k) j else needS n (l - 1) k j
def needZ (B S : Nat → Int) (t n : Int) (j : Nat) : Int := if rightT B S t then needS n.toNat (leftT B S t) (nextT B S t) j else 0

/-- Each of the three answers as the chapter says: taken as given here, proved of the landed code elsewhere. -/
structure KeptPost (walkP : (Nat → Int) → (Nat → Int) → Int → Int → Pr (List Nat)) : Prop where
  put : ∀ {w : World} {rb mb cb : Nat} {go : Option Nat} {st : St} {Bd : Nat} (B S U : Nat → Int) (C T L t v : Int), RM w rb mb cb go true st → st.Fine Bd → Bd < 1000000000 → Laid B S C → (∀ k, k < 6 → 0 ≤ U k ∧ U k ≤ S k) → -9223372036854775808 ≤ t → t ≤ 9223372036854775807 → 0 ≤ v → v ≤ 4294967295 →
    Calls Try.prog 25 #[.pointer (some ⟨rb, 0, none⟩), .agg (planC B S C T L), .agg (six U), .int .i64 t, .int .u32 v] w fun e w' => ∃ t' V er go', e = .returned (.tuple #[.int .i64 t', .agg (six V), .int .i64 er]) ∧ RM w' rb mb cb go' true ((putP B S U t v).on st).2 ∧ Adv rb mb cb w go w' go' ∧ ∀ x, ((putP B S U t v).on st).1 = some x → x.1 = t' ∧ six x.2.1 = six V ∧ x.2.2 = er
  walk : ∀ {w : World} {rb mb cb : Nat} {go : Option Nat} {st : St} {Bd : Nat} (B S : Nat → Int) (C T L t : Int), RM w rb mb cb go true st → st.Fine Bd → Bd < 1000000000 → Laid B S C → -9223372036854775808 ≤ t → t ≤ 9223372036854775807 →
    Calls Try.prog 14 #[.pointer (some ⟨rb, 0, none⟩), .agg (planC B S C T L), .int .i64 t] w fun e w' => ∃ v l go', e = .returned v ∧ OwnN 41 .u32 w' w.heap.size v l ∧ RM w' rb mb cb go' true ((walkP B S C t).on st).2 ∧ Adv rb mb cb w go w' go' ∧ ∀ x, ((walkP B S C t).on st).1 = some x → l = x
  walks : ∀ (B S : Nat → Int) (C : Int) (cs : List Int) (D : Int → Prop) (a : Int) (ws : List Nat), Laid B S C → Chain B S cs D a ws → Sure C.toNat (fun b y => D b → y = cs.getD b.toNat 0) (2 * ws.length) (walkP B S C a) ws
  need : ∀ (w : World) (B S : Nat → Int) (C T L t n : Int), Laid B S C → -9223372036854775808 ≤ t → t ≤ 9223372036854775807 → -9223372036854775808 ≤ n → n ≤ 3000 →
    Calls Try.prog 18 #[.agg (planC B S C T L), .int .i64 t, .int .i64 n] w fun e w' => e = .returned (.agg (six (needZ B S t n))) ∧ Below w.heap.size w w'

theorem OwnN.far {t : TypeId} {k : IntKind} {w : World} {base : Nat} {v : Value} {l : List Nat} (h : OwnN t k w base v l) : ∃ oa cap, v = .slice oa l.length cap ∧ l.length ≤ cap ∧ cap ≤ maxLen ∧ (oa = none → cap = 0) ∧ ReadN k w oa l ∧ ∀ ad, oa = some ad → base ≤ ad.block := by
  obtain ⟨oa, cap, rfl, h1, h2, h3, h4⟩ := h.reads
  refine ⟨oa, cap, rfl, h1, h2, h3, h4, ?_⟩
  rintro ad rfl
  obtain ⟨_, ⟨h5, _⟩ | ⟨g, cap', cur, e, hg, _⟩⟩ := h
  · cases h5
  · injection e with e1 e2 e3
    injection e1 with e1
    rw [e1]
    exact hg

/-! ### The closure of a Put -/
/-- Its variables: eight blocks, one behind the other; the fifth is the laws' own. -/
structure PutI (n : Nat) (B S : Nat → Int) (C T L : Int) (U : Nat → Int) (t v : Int) (w : World) : Prop where
  p : w.heap[n]? = some (.cells (planC B S C T L) 29 (0, 0))
  u : w.heap[n + 1]? = some (.cells (six U) 27 (0, 0))
  x : w.heap[n + 2]? = some (.cells #[.int .i64 t] 3 (0, 0))
  y : w.heap[n + 3]? = some (.cells #[.int .u32 v] 41 (0, 0))
  z : ∃ V, w.heap[n + 4]? = some (.cells (six V) 27 (0, 0))
  rt : ∃ i, w.heap[n + 5]? = some (.cells #[.int .i64 i] 3 (0, 0))
  ru : ∃ V, w.heap[n + 6]? = some (.cells (six V) 27 (0, 0))
  re : ∃ i, w.heap[n + 7]? = some (.cells #[.int .i64 i] 34 (0, 0))
def PutS (n k : Nat) : Prop := n ≤ k ∧ k < n + 8
/-- What it leaves in three of them. -/
structure PutQ (n : Nat) (x : PutR) (w : World) : Prop where
  t : w.heap[n + 5]? = some (.cells #[.int .i64 x.1] 3 (0, 0))
  u : w.heap[n + 6]? = some (.cells (six x.2.1) 27 (0, 0))
  e : w.heap[n + 7]? = some (.cells #[.int .i64 x.2.2] 34 (0, 0))
theorem PutI.of_blocks {n : Nat} {B S : Nat → Int} {C T L : Int} {U : Nat → Int} {t v : Int} {w w' : World} (h : PutI n B S C T L U t v w) (hb : ∀ k, PutS n k → k < w.heap.size → w'.heap[k]? = w.heap[k]?) : PutI n B S C T L U t v w' := by
  have g : ∀ (j : Nat) (o : Obj), j < 8 → w.heap[n + j]? = some o → w'.heap[n + j]? = some o := fun j o hj ho => (hb _ ⟨by omega, by omega⟩ (lt_of_heap ho)).trans ho
  obtain ⟨p, u, x, y, ⟨V, z⟩, ⟨i, rt⟩, ⟨V', ru⟩, ⟨e, re⟩⟩ := h
  exact ⟨g 0 _ (by omega) p, g 1 _ (by omega) u, g 2 _ (by omega) x, g 3 _ (by omega) y, ⟨V, g 4 _ (by omega) z⟩, ⟨i, g 5 _ (by omega) rt⟩, ⟨V', g 6 _ (by omega) ru⟩, ⟨e, g 7 _ (by omega) re⟩⟩
theorem six_info' (V : Nat → Int) : (Try.prog.info? 27).map (·.size) = some (six V).size := six_info V

set_option maxRecDepth 100000 in
set_option maxHeartbeats 2000000 in
theorem put_clo {walkP : (Nat → Int) → (Nat → Int) → Int → Int → Pr (List Nat)} (K : KeptPost walkP) {B S U : Nat → Int} {C T L t v : Int} (hL : Laid B S C) (hU : ∀ k, k < 6 → 0 ≤ U k ∧ U k ≤ S k) (h0 : -9223372036854775808 ≤ t) (h1 : t ≤ 9223372036854775807) (v0 : 0 ≤ v) (v1 : v ≤ 4294967295) (n rb mb cb Bd : Nat) (hB : Bd < 1000000000) (hrb : n + 8 ≤ rb) :
    Clo 24 #[.pointer (some ⟨n, 0, none⟩), .pointer (some ⟨n + 1, 0, none⟩), .pointer (some ⟨n + 2, 0, none⟩), .pointer (some ⟨n + 3, 0, none⟩), .pointer (some ⟨n + 5, 0, none⟩), .pointer (some ⟨n + 6, 0, none⟩), .pointer (some ⟨n + 7, 0, none⟩)] rb mb cb (PutS n) (PutI n B S C T L U t v) (putP B S U t v) (PutQ n) Bd where
  enter := fun args w => rfl
  keepI := fun w w' h _ hb => h.of_blocks hb
  keepP := fun x w w' go st h _ hm => ⟨(hm.block _ (lt_of_heap h.t) (by omega)).trans h.t, (hm.block _ (lt_of_heap h.u) (by omega)).trans h.u, (hm.block _ (lt_of_heap h.e) (by omega)).trans h.e⟩
  old := fun w h k hk => by
    obtain ⟨e, re⟩ := h.re
    have := lt_of_heap re
    have := hk.2
    omega
  call := fun w go st hrm hfine hoff hI hS => by
    have HI := Lib.hid hI
    have HK := Lib.hid (K.put B S U C T L t v hrm hfine hB hL hU h0 h1 v0 v1)
    have HS := Lib.hid hS
    have HP := Lib.hid hI.p
    have HU := Lib.hid hI.u
    have c2 := cell_at hI.x 0
    have c3 := cell_at hI.y 0
    clear hI hrm hfine hoff hS hL h0 h1 hB hU v0 v1
    show Calls Try.prog 24 #[.pointer (some ⟨rb, 0, none⟩), .pointer (some ⟨n, 0, none⟩), .pointer (some ⟨n + 1, 0, none⟩), .pointer (some ⟨n + 2, 0, none⟩), .pointer (some ⟨n + 3, 0, none⟩), .pointer (some ⟨n + 5, 0, none⟩), .pointer (some ⟨n + 6, 0, none⟩), .pointer (some ⟨n + 7, 0, none⟩)] w _
    go_enter Try.func24, Try.ntmps24
    go_wp2_with (first
      | (refine wpList_load_row rfl 29 (.tmp 1) rfl n rfl 29 (planC B S C T L) (0, 0) _ HP.out Try.underlying29 rfl (planC_info _ _ _ _ _) ?_)
      | (refine wpList_load_row rfl 27 (.tmp 2) rfl (n + 1) rfl 27 (six U) (0, 0) _ HU.out Try.underlying27 rfl (six_info _) ?_)
      | fail)
    refine HK.out.mono ?_
    clear HK
    rintro e w1 ⟨t', V, er, go', rfl, hrm1, hadv, hans⟩
    have hb : ∀ k, PutS n k → k < w.heap.size → w1.heap[k]? = w.heap[k]? := fun k hk hlt => hadv.mod.block k hlt fun e => HS.out k hk e
    have hI1 := HI.out.of_blocks hb
    obtain ⟨i5, r5⟩ := hI1.rt
    obtain ⟨V6, r6⟩ := hI1.ru
    obtain ⟨i7, r7⟩ := hI1.re
    have f5 := free_at r5 0
    have k5 := cell_at r5 0
    have r7' : ((w1.setCell ⟨n + 5, 0, none⟩ (.int .i64 t')).setRow (n + 6) (six V)).heap[n + 7]? = some (.cells #[.int .i64 i7] 34 (0, 0)) := (setRow_other _ _ _ _ (by omega)).trans ((Below.heap_setCell _ _ _ _ (by simp)).trans r7)
    have f7 := free_at r7' 0
    have k7 := cell_at r7' 0
    clear r7'
    have n57 : ¬ n + 5 = n + 6 := by omega
    have n67 : ¬ n + 7 = n + 6 := by omega
    have n75 : ¬ n + 7 = n + 5 := by omega
    have R5 := Lib.hid r5
    have R6 := Lib.hid r6
    have R7 := Lib.hid r7
    have HI1 := Lib.hid hI1
    have HA := Lib.hid (And.intro hrm1 (And.intro hadv hans))
    clear hb hI1 hrm1 hadv hans c2 c3 r5 r6 r7
    go_wp2_with (refine wpList_store_row rfl 27 (.tmp 6) (.tmp 17) rfl (n + 6) (six V) rfl rfl 27 (six V6) ((Below.heap_setCell _ _ _ _ (by simp)).trans R6.out) (six_info _) rfl (six_one _) ?_)
    go_end0
    obtain ⟨hrm1, hadv, hans⟩ := HA.out
    have hm : Mod (PutS n) w1 (((w1.setCell ⟨n + 5, 0, none⟩ (.int .i64 t')).setRow (n + 6) (six V)).setCell ⟨n + 7, 0, none⟩ (.int .i64 er)) :=
      Mod.setCell (S := PutS n) (Mod.setRow (Mod.setCell (S := PutS n) (Mod.refl _ _) (.inr ⟨by simp, by simp⟩) _) (.inr ⟨by omega, by omega⟩) _) (.inr ⟨by simp, by simp⟩) _
    have hfar : ∀ k, Feet rb mb cb go' k → ¬ PutS n k := fun k hk hs => (hadv.advS (fun _ => False)).apart (show k < w.heap.size by
      obtain ⟨e, re⟩ := HI.out.re
      have := lt_of_heap re
      have := hs.2
      omega) (HS.out k hs) hk
    obtain ⟨p, u, x, y, ⟨Vz, z⟩, _, _, _⟩ := HI1.out
    have g : ∀ (j : Nat) (o : Obj), j < 5 → w1.heap[n + j]? = some o → (((w1.setCell ⟨n + 5, 0, none⟩ (.int .i64 t')).setRow (n + 6) (six V)).setCell ⟨n + 7, 0, none⟩ (.int .i64 er)).heap[n + j]? = some o := by
      intro j o hj ho
      rw [Below.heap_setCell _ _ _ _ (by simp; omega), setRow_other _ _ _ _ (by omega), Below.heap_setCell _ _ _ _ (by simp; omega)]
      exact ho
    have q5 : (((w1.setCell ⟨n + 5, 0, none⟩ (.int .i64 t')).setRow (n + 6) (six V)).setCell ⟨n + 7, 0, none⟩ (.int .i64 er)).heap[n + 5]? = some (.cells #[.int .i64 t'] 3 (0, 0)) := by
      rw [Below.heap_setCell _ _ _ _ (by simp), setRow_other _ _ _ _ (by omega), heap_setCell_same _ _ _ _ _ _ R5.out]
      rfl
    have q6 : (((w1.setCell ⟨n + 5, 0, none⟩ (.int .i64 t')).setRow (n + 6) (six V)).setCell ⟨n + 7, 0, none⟩ (.int .i64 er)).heap[n + 6]? = some (.cells (six V) 27 (0, 0)) := by
      rw [Below.heap_setCell _ _ _ _ (by simp), setRow_heap _ _ _ _ _ _ ((Below.heap_setCell _ _ _ _ (by simp)).trans R6.out)]
    have q7 : (((w1.setCell ⟨n + 5, 0, none⟩ (.int .i64 t')).setRow (n + 6) (six V)).setCell ⟨n + 7, 0, none⟩ (.int .i64 er)).heap[n + 7]? = some (.cells #[.int .i64 er] 34 (0, 0)) := by
      rw [heap_setCell_same _ _ _ _ _ _ ((setRow_other _ _ _ _ (by omega)).trans ((Below.heap_setCell _ _ _ _ (by simp)).trans R7.out))]
      rfl
    refine ⟨rfl, go', hrm1.mod hm hfar, (hadv.advS _).trans (AdvS.of_mod hm fun k hk => .inl hk), ⟨g 0 _ (by omega) p, g 1 _ (by omega) u, g 2 _ (by omega) x, g 3 _ (by omega) y, ⟨Vz, g 4 _ (by omega) z⟩, ⟨_, q5⟩, ⟨_, q6⟩, ⟨_, q7⟩⟩, ?_⟩
    intro x hx
    obtain ⟨e1, e2, e3⟩ := hans x hx
    exact ⟨by rw [e1]; exact q5, by rw [e2]; exact q6, by rw [e3]; exact q7⟩

/-! ### The closures of a Walk -/
structure WalkI (bp bx bl : Nat) (B S : Nat → Int) (C T L t : Int) (w : World) : Prop where
  p : w.heap[bp]? = some (.cells (planC B S C T L) 29 (0, 0))
  x : w.heap[bx]? = some (.cells #[.int .i64 t] 3 (0, 0))
  l : ∃ v, w.heap[bl]? = some (.cells #[v] 37 (0, 0))
/-- What it leaves in the last one: a row that begins behind W0. -/
def WalkQ (W0 bl : Nat) (ws : List Nat) (w : World) : Prop := ∃ oa c, w.heap[bl]? = some (.cells #[.slice oa ws.length c] 37 (0, 0)) ∧ ws.length ≤ c ∧ c ≤ maxLen ∧ (oa = none → c = 0) ∧ ReadN .u32 w oa ws ∧ ∀ ad, oa = some ad → W0 ≤ ad.block

set_option maxHeartbeats 1000000 in
theorem walk_clo {walkP : (Nat → Int) → (Nat → Int) → Int → Int → Pr (List Nat)} (K : KeptPost walkP) {B S : Nat → Int} {C T L t : Int} (hL : Laid B S C) (h0 : -9223372036854775808 ≤ t) (h1 : t ≤ 9223372036854775807) (bp bx bl W0 rb mb cb Bd : Nat) (hB : Bd < 1000000000) (hrb : bp < rb ∧ bx < rb ∧ bl < rb) (hW : W0 ≤ rb) :
    Clo 26 #[.pointer (some ⟨bp, 0, none⟩), .pointer (some ⟨bx, 0, none⟩), .pointer (some ⟨bl, 0, none⟩)] rb mb cb (fun k => k = bp ∨ k = bx ∨ k = bl) (WalkI bp bx bl B S C T L t) (walkP B S C t) (WalkQ W0 bl) Bd where
  enter := fun args w => rfl
  keepI := fun w w' h hs hb => ⟨(hb bp (.inl rfl) (lt_of_heap h.p)).trans h.p, (hb bx (.inr (.inl rfl)) (lt_of_heap h.x)).trans h.x, by obtain ⟨v, h4⟩ := h.l; exact ⟨v, (hb bl (.inr (.inr rfl)) (lt_of_heap h4)).trans h4⟩⟩
  keepP := fun x w w' go st h hr hm => by
    obtain ⟨oa, c, a1, a2, a3, a4, a5, a6⟩ := h
    refine ⟨oa, c, (hm.block bl (lt_of_heap a1) (by omega)).trans a1, a2, a3, a4, ?_, a6⟩
    intro j y hj
    obtain ⟨g, o, e, hc⟩ := a5 j y hj
    refine ⟨g, o, e, ?_⟩
    have hne : g ≠ rb := by
      rintro rfl
      obtain ⟨cap, hrun⟩ := hr.run
      rw [cell_at hrun.rec_] at hc
      have h8 : o + j < 8 := by
        have := (Array.getElem?_eq_some_iff.1 hc).1
        simpa using this
      rcases (show o + j = 0 ∨ o + j = 1 ∨ o + j = 2 ∨ o + j = 3 ∨ o + j = 4 ∨ o + j = 5 ∨ o + j = 6 ∨ o + j = 7 by omega) with e | e | e | e | e | e | e | e <;> rw [e] at hc <;> simp at hc
    rw [← hc]
    exact World.cell?_of_block (hm.block g (lt_of_cell hc) hne)
  old := fun w h k hk => by
    obtain ⟨v, h4⟩ := h.l
    rcases hk with rfl | rfl | rfl
    · exact lt_of_heap h.p
    · exact lt_of_heap h.x
    · exact lt_of_heap h4
  call := fun w go st hrm hfine hoff hI hS => by
    obtain ⟨v0, hl⟩ := hI.l
    have HP := Lib.hid hI.p
    have HX := Lib.hid hI.x
    have HL := Lib.hid hl
    have cx := cell_at hI.x 0
    have HK := Lib.hid (K.walk B S C T L t hrm hfine hB hL h0 h1)
    have HR := Lib.hid hrm
    have HS := Lib.hid hS
    have HW := Lib.hid (show rb < w.heap.size from hrm.lt rb (.inl rfl))
    have HPX := Lib.hid (show bp ≠ bl ∧ bx ≠ bl from ⟨by rintro rfl; have := hI.p.symm.trans hl; simp [planC] at this, by rintro rfl; have := hI.x.symm.trans hl; simp at this⟩)
    clear hI hl hrm hfine hoff hS hL h0 h1 hB
    show Calls Try.prog 26 #[.pointer (some ⟨rb, 0, none⟩), .pointer (some ⟨bp, 0, none⟩), .pointer (some ⟨bx, 0, none⟩), .pointer (some ⟨bl, 0, none⟩)] w _
    go_enter Try.func26, Try.ntmps26
    go_wp2_with (refine wpList_load_row rfl 29 (.tmp 1) rfl bp rfl 29 (planC B S C T L) (0, 0) _ HP.out Try.underlying29 rfl (planC_info _ _ _ _ _) ?_)
    refine HK.out.mono ?_
    clear HK
    rintro e w1 ⟨v, l, go', rfl, hown, hrm1, hadv, hans⟩
    obtain ⟨oa, c, rfl, b2, b3, b4, b5, b6⟩ := hown.far
    clear hown
    have hown := And.intro b2 (And.intro b3 (And.intro b4 (And.intro b5 b6)))
    clear b2 b3 b4 b5 b6
    have hb : ∀ k, (k = bp ∨ k = bx ∨ k = bl) → k < w.heap.size → w1.heap[k]? = w.heap[k]? := fun k hk hlt => hadv.mod.block k hlt fun e => HS.out k hk e
    have hl1 := (hb bl (.inr (.inr rfl)) (lt_of_heap HL.out)).trans HL.out
    have hf := free_at hl1 0
    have HL1 := Lib.hid hl1
    have HB := Lib.hid hb
    have HA := Lib.hid (And.intro hown (And.intro hrm1 (And.intro hadv hans)))
    clear hb hl1 hown hrm1 hadv hans cx
    obtain ⟨z, hz⟩ : ∃ z, z = bl := ⟨_, rfl⟩
    have c1 := cell_at HL1.out 0
    clear hz z
    go_wp2_with fail
    go_end0
    obtain ⟨hown, hrm1, hadv, hans⟩ := HA.out
    have hm : Mod (fun k => k = bp ∨ k = bx ∨ k = bl) w1 (w1.setCell ⟨bl, 0, none⟩ (.slice oa l.length c)) := Mod.setCell (S := fun k => k = bp ∨ k = bx ∨ k = bl) (Mod.refl _ _) (.inr (.inr (.inr rfl))) _
    have hfar : ∀ k, Feet rb mb cb go' k → ¬ (k = bp ∨ k = bx ∨ k = bl) := fun k hk hs => (hadv.advS (fun _ => False)).apart (show k < w.heap.size by have := HW.out; rcases hs with rfl | rfl | rfl; exact lt_of_heap HP.out; exact lt_of_heap HX.out; exact lt_of_heap HL.out) (HS.out k hs) hk
    have hset : (w1.setCell ⟨bl, 0, none⟩ (.slice oa l.length c)).heap[bl]? = some (.cells #[.slice oa l.length c] 37 (0, 0)) := by rw [heap_setCell_same _ _ _ _ _ _ HL1.out]; rfl
    refine ⟨rfl, go', hrm1.mod hm hfar, (hadv.advS _).trans (AdvS.of_mod hm fun k hk => .inl hk), ⟨?_, ?_, ?_⟩, ?_⟩
    · rw [Below.heap_setCell _ _ _ _ HPX.out.1]
      exact (HB.out bp (.inl rfl) (lt_of_heap HP.out)).trans HP.out
    · rw [Below.heap_setCell _ _ _ _ HPX.out.2]
      exact (HB.out bx (.inr (.inl rfl)) (lt_of_heap HX.out)).trans HX.out
    · exact ⟨_, hset⟩
    · intro x hx
      obtain rfl := hans x hx
      obtain ⟨a2, a3, a4, a5, a6⟩ := hown
      refine ⟨oa, c, hset, a2, a3, a4, ?_, fun ad had => by have := a6 ad had; have := HW.out; omega⟩
      intro j y hj
      obtain ⟨g, o, e, hc⟩ := a5 j y hj
      refine ⟨g, o, e, ?_⟩
      have h6 : w.heap.size ≤ g := a6 _ e
      have hgl : g ≠ bl := by have := lt_of_heap HL.out; omega
      rw [← hc]
      exact World.cell?_of_block (Below.heap_setCell _ _ _ _ hgl)

set_option maxHeartbeats 1000000 in
theorem walk_clo2 {walkP : (Nat → Int) → (Nat → Int) → Int → Int → Pr (List Nat)} (K : KeptPost walkP) {B S : Nat → Int} {C T L t : Int} (hL : Laid B S C) (h0 : -9223372036854775808 ≤ t) (h1 : t ≤ 9223372036854775807) (bp bx bl W0 rb mb cb Bd : Nat) (hB : Bd < 1000000000) (hrb : bp < rb ∧ bx < rb ∧ bl < rb) (hW : W0 ≤ rb) :
    Clo 13 #[.pointer (some ⟨bp, 0, none⟩), .pointer (some ⟨bx, 0, none⟩), .pointer (some ⟨bl, 0, none⟩)] rb mb cb (fun k => k = bp ∨ k = bx ∨ k = bl) (WalkI bp bx bl B S C T L t) (walkP B S C t) (WalkQ W0 bl) Bd where
  enter := fun args w => rfl
  keepI := fun w w' h hs hb => ⟨(hb bp (.inl rfl) (lt_of_heap h.p)).trans h.p, (hb bx (.inr (.inl rfl)) (lt_of_heap h.x)).trans h.x, by obtain ⟨v, h4⟩ := h.l; exact ⟨v, (hb bl (.inr (.inr rfl)) (lt_of_heap h4)).trans h4⟩⟩
  keepP := fun x w w' go st h hr hm => by
    obtain ⟨oa, c, a1, a2, a3, a4, a5, a6⟩ := h
    refine ⟨oa, c, (hm.block bl (lt_of_heap a1) (by omega)).trans a1, a2, a3, a4, ?_, a6⟩
    intro j y hj
    obtain ⟨g, o, e, hc⟩ := a5 j y hj
    refine ⟨g, o, e, ?_⟩
    have hne : g ≠ rb := by
      rintro rfl
      obtain ⟨cap, hrun⟩ := hr.run
      rw [cell_at hrun.rec_] at hc
      have h8 : o + j < 8 := by
        have := (Array.getElem?_eq_some_iff.1 hc).1
        simpa using this
      rcases (show o + j = 0 ∨ o + j = 1 ∨ o + j = 2 ∨ o + j = 3 ∨ o + j = 4 ∨ o + j = 5 ∨ o + j = 6 ∨ o + j = 7 by omega) with e | e | e | e | e | e | e | e <;> rw [e] at hc <;> simp at hc
    rw [← hc]
    exact World.cell?_of_block (hm.block g (lt_of_cell hc) hne)
  old := fun w h k hk => by
    obtain ⟨v, h4⟩ := h.l
    rcases hk with rfl | rfl | rfl
    · exact lt_of_heap h.p
    · exact lt_of_heap h.x
    · exact lt_of_heap h4
  call := fun w go st hrm hfine hoff hI hS => by
    obtain ⟨v0, hl⟩ := hI.l
    have HP := Lib.hid hI.p
    have HX := Lib.hid hI.x
    have HL := Lib.hid hl
    have cx := cell_at hI.x 0
    have HK := Lib.hid (K.walk B S C T L t hrm hfine hB hL h0 h1)
    have HR := Lib.hid hrm
    have HS := Lib.hid hS
    have HW := Lib.hid (show rb < w.heap.size from hrm.lt rb (.inl rfl))
    have HPX := Lib.hid (show bp ≠ bl ∧ bx ≠ bl from ⟨by rintro rfl; have := hI.p.symm.trans hl; simp [planC] at this, by rintro rfl; have := hI.x.symm.trans hl; simp at this⟩)
    clear hI hl hrm hfine hoff hS hL h0 h1 hB
    show Calls Try.prog 13 #[.pointer (some ⟨rb, 0, none⟩), .pointer (some ⟨bp, 0, none⟩), .pointer (some ⟨bx, 0, none⟩), .pointer (some ⟨bl, 0, none⟩)] w _
    go_enter Try.func13, Try.ntmps13
    go_wp2_with (refine wpList_load_row rfl 29 (.tmp 1) rfl bp rfl 29 (planC B S C T L) (0, 0) _ HP.out Try.underlying29 rfl (planC_info _ _ _ _ _) ?_)
    refine HK.out.mono ?_
    clear HK
    rintro e w1 ⟨v, l, go', rfl, hown, hrm1, hadv, hans⟩
    obtain ⟨oa, c, rfl, b2, b3, b4, b5, b6⟩ := hown.far
    clear hown
    have hown := And.intro b2 (And.intro b3 (And.intro b4 (And.intro b5 b6)))
    clear b2 b3 b4 b5 b6
    have hb : ∀ k, (k = bp ∨ k = bx ∨ k = bl) → k < w.heap.size → w1.heap[k]? = w.heap[k]? := fun k hk hlt => hadv.mod.block k hlt fun e => HS.out k hk e
    have hl1 := (hb bl (.inr (.inr rfl)) (lt_of_heap HL.out)).trans HL.out
    have hf := free_at hl1 0
    have HL1 := Lib.hid hl1
    have HB := Lib.hid hb
    have HA := Lib.hid (And.intro hown (And.intro hrm1 (And.intro hadv hans)))
    clear hb hl1 hown hrm1 hadv hans cx
    obtain ⟨z, hz⟩ : ∃ z, z = bl := ⟨_, rfl⟩
    have c1 := cell_at HL1.out 0
    clear hz z
    go_wp2_with fail
    go_end0
    obtain ⟨hown, hrm1, hadv, hans⟩ := HA.out
    have hm : Mod (fun k => k = bp ∨ k = bx ∨ k = bl) w1 (w1.setCell ⟨bl, 0, none⟩ (.slice oa l.length c)) := Mod.setCell (S := fun k => k = bp ∨ k = bx ∨ k = bl) (Mod.refl _ _) (.inr (.inr (.inr rfl))) _
    have hfar : ∀ k, Feet rb mb cb go' k → ¬ (k = bp ∨ k = bx ∨ k = bl) := fun k hk hs => (hadv.advS (fun _ => False)).apart (show k < w.heap.size by have := HW.out; rcases hs with rfl | rfl | rfl; exact lt_of_heap HP.out; exact lt_of_heap HX.out; exact lt_of_heap HL.out) (HS.out k hs) hk
    have hset : (w1.setCell ⟨bl, 0, none⟩ (.slice oa l.length c)).heap[bl]? = some (.cells #[.slice oa l.length c] 37 (0, 0)) := by rw [heap_setCell_same _ _ _ _ _ _ HL1.out]; rfl
    refine ⟨rfl, go', hrm1.mod hm hfar, (hadv.advS _).trans (AdvS.of_mod hm fun k hk => .inl hk), ⟨?_, ?_, ?_⟩, ?_⟩
    · rw [Below.heap_setCell _ _ _ _ HPX.out.1]
      exact (HB.out bp (.inl rfl) (lt_of_heap HP.out)).trans HP.out
    · rw [Below.heap_setCell _ _ _ _ HPX.out.2]
      exact (HB.out bx (.inr (.inl rfl)) (lt_of_heap HX.out)).trans HX.out
    · exact ⟨_, hset⟩
    · intro x hx
      obtain rfl := hans x hx
      obtain ⟨a2, a3, a4, a5, a6⟩ := hown
      refine ⟨oa, c, hset, a2, a3, a4, ?_, fun ad had => by have := a6 ad had; have := HW.out; omega⟩
      intro j y hj
      obtain ⟨g, o, e, hc⟩ := a5 j y hj
      refine ⟨g, o, e, ?_⟩
      have h6 : w.heap.size ≤ g := a6 _ e
      have hgl : g ≠ bl := by have := lt_of_heap HL.out; omega
      rw [← hc]
      exact World.cell?_of_block (Below.heap_setCell _ _ _ _ hgl)

end Go.Proofs.Ytiabmbkmahlhkaa
