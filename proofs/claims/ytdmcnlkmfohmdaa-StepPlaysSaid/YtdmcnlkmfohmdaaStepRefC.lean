/-
  The reference's Step. Over the program's own text.
-/
import Derived.Test.YtdmcnlkmfohmdaaStepRefB
namespace Go.Proofs.Ytdmcnlkmfohmdaa
open Go.RowKit

/-- A row of numbers in a block. -/
structure RowAt (w : World) (gb : Nat) (cs : List Int) (kk : Nat) : Prop where
  row : w.heap[gb]? = some (.cells (cs.map (Value.int .u32)).toArray 36 (0, 0))
  len : cs.length = kk
  u : ∀ x ∈ cs, U x
theorem RowAt.old {w w' : World} {gb kk : Nat} {cs : List Int} (h : RowAt w gb cs kk) (hb : Below w.heap.size w w') : RowAt w' gb cs kk := ⟨(hb.block _ (lt_of_heap h.row)).trans h.row, h.len, h.u⟩
theorem RowAt.below {w w' : World} {gb kk : Nat} {cs : List Int} (h : RowAt w gb cs kk) (hb : Below w.heap.size w w') : RowAt w' gb cs kk := ⟨(hb.block _ (lt_of_heap h.row)).trans h.row, h.len, h.u⟩

/-- What the reference's Step makes of a program and its cells. -/
def PS.step (p : PS) (E : Nat → Ins) (cs : List Int) : PS × List Int :=
  if p.over = true then (p, cs)
  else if nxt E (p.len - p.at_) p.at_ p.last = true then
    if okAt cs.length (addrOf (E (pos E (p.len - p.at_) p.at_ p.last)) p.last) = true then
      (({ p with at_ := pos E (p.len - p.at_) p.at_ p.last + 1, last := thenOf cs (E (pos E (p.len - p.at_) p.at_ p.last)) p.last, made := p.made + 1 } : PS).on E, behind cs (E (pos E (p.len - p.at_) p.at_ p.last)) p.last)
    else ({ p with at_ := pos E (p.len - p.at_) p.at_ p.last, over := true, err := 2 }, cs)
  else (p.on E, cs)

/-- Where its two variables lie. -/
structure TwoAt (w : World) (a b : Nat) (p : PS) (wr : World) : Prop where
  va : wr.heap[a]? = some (.cells (progC p) 38 (0, 0))
  vb : wr.heap[b]? = some (.cells progZ 38 (0, 0))
  low : Below w.heap.size w wr
  ha : w.heap.size ≤ a
  hab : a < b
theorem TwoAt.below {w wr w' : World} {a b : Nat} {p : PS} (h : TwoAt w a b p wr) (hb : Below wr.heap.size wr w') : TwoAt w a b p w' :=
  ⟨(hb.block _ (lt_of_heap h.va)).trans h.va, (hb.block _ (lt_of_heap h.vb)).trans h.vb, h.low.trans (hb.mono h.low.size), h.ha, h.hab⟩
theorem TwoAt.set {w wr : World} {a b : Nat} {p p' : PS} (h : TwoAt w a b p wr) (i : Nat) (u : Value) (e : (progC p).setIfInBounds i u = progC p') : TwoAt w a b p' (wr.setCell ⟨a, i, none⟩ u) :=
  ⟨by rw [heap_setCell_same _ _ _ _ _ _ h.va, e], by rw [Below.heap_setCell _ _ _ _ (by have := h.hab; simp only; omega)]; exact h.vb, h.low.setCell (p := ⟨a, i, none⟩) h.ha _, h.ha, h.hab⟩
theorem TwoAt.setRow {w wr : World} {a b : Nat} {p : PS} (h : TwoAt w a b p wr) (p' : PS) : TwoAt w a b p' (wr.setRow a (progC p')) :=
  ⟨setRow_heap _ _ _ _ _ _ h.va, (setRow_other _ _ _ _ (by have := h.hab; omega)).trans h.vb, below_setRow h.low h.ha _, h.ha, h.hab⟩

theorem on_next {p : PS} {E : Nat → Ins} (h1 : nxt E (p.len - p.at_) p.at_ p.last = true) (h2 : p.over = false) : p.on E = { p with at_ := pos E (p.len - p.at_) p.at_ p.last } := by
  unfold PS.on
  rw [h1, h2]
  rfl

theorem TwoAt.other {w wr w' : World} {a b : Nat} {p : PS} (h : TwoAt w a b p wr) {S : Nat → Prop} (hm : Mod S wr w') (hS : ∀ k, k < w.heap.size → ¬ S k) (hna : ¬ S a) (hnb : ¬ S b) : TwoAt w a b p w' :=
  ⟨(hm.block _ (lt_of_heap h.va) hna).trans h.va, (hm.block _ (lt_of_heap h.vb) hnb).trans h.vb, h.low.trans (Mod.below hm h.low.size hS), h.ha, h.hab⟩

set_option maxHeartbeats 1000000 in
theorem rstep_over {w : World} {E : Nat → Ins} (p : PS) (cs : List Int) (kk gb : Nat) (ho : p.over = true) (hrow : RowAt w gb cs kk) :
    Calls Try.prog 12 #[.agg (progC p), .slice (some ⟨gb, 0, none⟩) kk kk] w fun e w' => ∃ gb', e = .returned (.tuple #[.agg (progC (p.step E cs).1), .slice (some ⟨gb', 0, none⟩) kk kk]) ∧ RowAt w' gb' (p.step E cs).2 kk ∧ (gb' = gb ∨ w.heap.size ≤ gb') ∧ Below w.heap.size w w' := by
  have HO := Lib.hid ho
  have HE := Lib.hid (show p.step E cs = (p, cs) by unfold PS.step; rw [if_pos ho])
  rw [HE.out]
  have HR := Lib.hid hrow
  clear ho hrow
  go_enter Try.func12, Try.ntmps12
  go_upto_region 1 with fail
  have HT : Hid (TwoAt w w.heap.size (w.heap.size + 1) p ((w.alloc (.cells (progC p) 38)).alloc (.cells progZ 38))) := Lib.hid ⟨heap2_0 w _ _, heap2_1 w _ _, below_al2, Nat.le_refl _, by omega⟩
  obtain ⟨wx, hwx⟩ : ∃ wx, wx = (w.alloc (.cells (progC p) 38)).alloc (.cells progZ 38) := ⟨_, rfl⟩
  rw [← hwx] at HT
  rw [show (w.alloc (.cells (progC p) 38)).alloc (.cells #[.slice none 0 0, .int .i64 0, .int .u32 0, .bool false, .int .i64 0, .int .i64 0] 38) = wx from hwx.symm]
  obtain ⟨a, ha⟩ : ∃ a, a = w.heap.size := ⟨_, rfl⟩
  obtain ⟨b, hb⟩ : ∃ b, b = w.heap.size + 1 := ⟨_, rfl⟩
  rw [← hb, ← ha] at HT ⊢
  have hab : w.heap.size ≤ a ∧ a < b := by omega
  have HAB := Lib.hid hab
  clear ha hb hwx hab
  have c3 : wx.cell? ⟨a, 3, none⟩ = some (.bool true) := by rw [← HO.out]; exact cell_at HT.out.va 3
  go_wp2_with (first
    | (refine wpList_load_row rfl 38 (.tmp 2) rfl a rfl 38 (progC p) (0, 0) _ HT.out.va Try.underlying38 rfl (progC_info _) ?_)
    | (refine wpList_store_row rfl 38 (.tmp 4) (.tmp 11) rfl b (progC p) rfl rfl 38 progZ HT.out.vb (progC_info _) rfl (progC_one _) ?_)
    | fail)
  refine bodyPost_ret (v := .tuple #[.agg (progC p), .slice (some ⟨gb, 0, none⟩) kk kk]) (results_cell_tmp rfl _ _ b 38 _ (0, 0) _ _ rfl rfl (setRow_heap _ _ _ _ _ _ HT.out.vb) Try.underlying38 rfl (progC_info _)) rfl ⟨gb, rfl, ?_, .inl rfl, ?_⟩
  · exact HR.out.old (below_setRow HT.out.low (by have := HAB.out; omega) _)
  · exact below_setRow HT.out.low (by have := HAB.out; omega) _

set_option maxHeartbeats 1000000 in
theorem rstep_end {w : World} {D : Nat → Prop} {E : Nat → Ins} (p : PS) (cs : List Int) (kk gb : Nat) (hI : InsAt w D p.ao p.len E) (hu : U p.last) (hl : p.len ≤ 60) (hat : p.at_ ≤ p.len) (ho : p.over = false) (hn : nxt E (p.len - p.at_) p.at_ p.last = false) (hrow : RowAt w gb cs kk) :
    Calls Try.prog 12 #[.agg (progC p), .slice (some ⟨gb, 0, none⟩) kk kk] w fun e w' => ∃ gb', e = .returned (.tuple #[.agg (progC (p.step E cs).1), .slice (some ⟨gb', 0, none⟩) kk kk]) ∧ RowAt w' gb' (p.step E cs).2 kk ∧ (gb' = gb ∨ w.heap.size ≤ gb') ∧ Below w.heap.size w w' := by
  have HI := Lib.hid hI
  have HU := Lib.hid hu
  have HL := Lib.hid (show p.len ≤ 100 by omega)
  have HL60 := Lib.hid hl
  have HAT := Lib.hid hat
  have HO := Lib.hid ho
  have HE := Lib.hid (show p.step E cs = (p.on E, cs) by unfold PS.step; rw [ho, hn]; simp)
  rw [HE.out]
  have HR := Lib.hid hrow
  have HN := Lib.hid hn
  clear hI hu hl hat ho hn hrow
  go_enter Try.func12, Try.ntmps12
  go_upto_region 1 with fail
  have HT : Hid (TwoAt w w.heap.size (w.heap.size + 1) p ((w.alloc (.cells (progC p) 38)).alloc (.cells progZ 38))) := Lib.hid ⟨heap2_0 w _ _, heap2_1 w _ _, below_al2, Nat.le_refl _, by omega⟩
  obtain ⟨wx, hwx⟩ : ∃ wx, wx = (w.alloc (.cells (progC p) 38)).alloc (.cells progZ 38) := ⟨_, rfl⟩
  rw [← hwx] at HT
  rw [show (w.alloc (.cells (progC p) 38)).alloc (.cells #[.slice none 0 0, .int .i64 0, .int .u32 0, .bool false, .int .i64 0, .int .i64 0] 38) = wx from hwx.symm]
  obtain ⟨a, ha⟩ : ∃ a, a = w.heap.size := ⟨_, rfl⟩
  obtain ⟨b, hb⟩ : ∃ b, b = w.heap.size + 1 := ⟨_, rfl⟩
  rw [← hb, ← ha] at HT ⊢
  have hab : w.heap.size ≤ a ∧ a < b := by omega
  have HAB := Lib.hid hab
  clear ha hb hwx hab
  have c3 : wx.cell? ⟨a, 3, none⟩ = some (.bool false) := by rw [← HO.out]; exact cell_at HT.out.va 3
  go_wp2_with (first
    | (refine wpList_load_row rfl 38 (.tmp 2) rfl a rfl 38 (progC p) (0, 0) _ HT.out.va Try.underlying38 rfl (progC_info _) ?_)
    | fail)
  refine (on_any p (HI.out.below HT.out.low) HU.out HL.out HAT.out).mono ?_; rintro e w2 ⟨rfl, hb2⟩
  have HT := Lib.hid (HT.out.below hb2)
  clear hb2 c3
  go_upto_region 4 with (first
    | (refine wpList_store_row rfl 38 (.tmp 2) (.tmp 14) rfl a (progC (p.on E)) rfl rfl 38 (progC p) HT.out.va (progC_info _) rfl (progC_one _) ?_)
    | fail)
  obtain ⟨w3, hw3⟩ : ∃ w3, w3 = w2.setRow a (progC (p.on E)) := ⟨_, rfl⟩
  rw [show w2.setRow a (progC (p.on E)) = w3 from hw3.symm]
  have HT := Lib.hid (show TwoAt w a b (p.on E) w3 by rw [hw3]; exact HT.out.setRow _)
  clear hw3
  have c3 : w3.cell? ⟨a, 3, none⟩ = some (.bool true) := by
    have : (p.on E).over = true := by simp [PS.on, HN.out]
    rw [← this]; exact cell_at HT.out.va 3
  go_wp2_with (first
    | (refine wpList_load_row rfl 38 (.tmp 2) rfl a rfl 38 (progC (p.on E)) (0, 0) _ HT.out.va Try.underlying38 rfl (progC_info _) ?_)
    | (refine wpList_store_row rfl 38 (.tmp 4) (.tmp 17) rfl b (progC (p.on E)) rfl rfl 38 progZ HT.out.vb (progC_info _) rfl (progC_one _) ?_)
    | fail)
  refine bodyPost_ret (v := .tuple #[.agg (progC (p.on E)), .slice (some ⟨gb, 0, none⟩) kk kk]) (results_cell_tmp rfl _ _ b 38 _ (0, 0) _ _ rfl rfl (setRow_heap _ _ _ _ _ _ HT.out.vb) Try.underlying38 rfl (progC_info _)) rfl ⟨gb, rfl, ?_, .inl rfl, ?_⟩
  · exact HR.out.old (below_setRow HT.out.low (by have := HAB.out; omega) _)
  · exact below_setRow HT.out.low (by have := HAB.out; omega) _

set_option maxHeartbeats 1000000 in
theorem rstep_out {w : World} {D : Nat → Prop} {E : Nat → Ins} (p : PS) (cs : List Int) (kk gb : Nat) (hI : InsAt w D p.ao p.len E) (hu : U p.last) (hl : p.len ≤ 60) (hat : p.at_ ≤ p.len) (ho : p.over = false) (hn : nxt E (p.len - p.at_) p.at_ p.last = true) (hpl : pos E (p.len - p.at_) p.at_ p.last < p.len) (hout : okAt cs.length (addrOf (E (pos E (p.len - p.at_) p.at_ p.last)) p.last) = false) (hrow : RowAt w gb cs kk) :
    Calls Try.prog 12 #[.agg (progC p), .slice (some ⟨gb, 0, none⟩) kk kk] w fun e w' => ∃ gb', e = .returned (.tuple #[.agg (progC (p.step E cs).1), .slice (some ⟨gb', 0, none⟩) kk kk]) ∧ RowAt w' gb' (p.step E cs).2 kk ∧ (gb' = gb ∨ w.heap.size ≤ gb') ∧ Below w.heap.size w w' := by
  have HI := Lib.hid hI
  have HU := Lib.hid hu
  have HL := Lib.hid (show p.len ≤ 100 by omega)
  have HL60 := Lib.hid hl
  have HAT := Lib.hid hat
  have HO := Lib.hid ho
  have HOUT := Lib.hid hout
  have HE := Lib.hid (show p.step E cs = ({ p with at_ := pos E (p.len - p.at_) p.at_ p.last, over := true, err := 2 }, cs) by unfold PS.step; rw [ho, hn, hout]; simp)
  rw [HE.out]
  have HR := Lib.hid hrow
  have HN := Lib.hid hn
  have HPL := Lib.hid hpl
  clear hout hI hu hl hat ho hn hrow hpl
  go_enter Try.func12, Try.ntmps12
  go_upto_region 1 with fail
  have HT : Hid (TwoAt w w.heap.size (w.heap.size + 1) p ((w.alloc (.cells (progC p) 38)).alloc (.cells progZ 38))) := Lib.hid ⟨heap2_0 w _ _, heap2_1 w _ _, below_al2, Nat.le_refl _, by omega⟩
  obtain ⟨wx, hwx⟩ : ∃ wx, wx = (w.alloc (.cells (progC p) 38)).alloc (.cells progZ 38) := ⟨_, rfl⟩
  rw [← hwx] at HT
  rw [show (w.alloc (.cells (progC p) 38)).alloc (.cells #[.slice none 0 0, .int .i64 0, .int .u32 0, .bool false, .int .i64 0, .int .i64 0] 38) = wx from hwx.symm]
  obtain ⟨a, ha⟩ : ∃ a, a = w.heap.size := ⟨_, rfl⟩
  obtain ⟨b, hb⟩ : ∃ b, b = w.heap.size + 1 := ⟨_, rfl⟩
  rw [← hb, ← ha] at HT ⊢
  have hab : w.heap.size ≤ a ∧ a < b := by omega
  have HAB := Lib.hid hab
  clear ha hb hwx hab
  have c3 : wx.cell? ⟨a, 3, none⟩ = some (.bool false) := by rw [← HO.out]; exact cell_at HT.out.va 3
  go_wp2_with (first
    | (refine wpList_load_row rfl 38 (.tmp 2) rfl a rfl 38 (progC p) (0, 0) _ HT.out.va Try.underlying38 rfl (progC_info _) ?_)
    | fail)
  refine (on_any p (HI.out.below HT.out.low) HU.out HL.out HAT.out).mono ?_; rintro e w2 ⟨rfl, hb2⟩
  have HT := Lib.hid (HT.out.below hb2)
  clear hb2 c3
  go_upto_region 4 with (first
    | (refine wpList_store_row rfl 38 (.tmp 2) (.tmp 14) rfl a (progC (p.on E)) rfl rfl 38 (progC p) HT.out.va (progC_info _) rfl (progC_one _) ?_)
    | fail)
  obtain ⟨w3, hw3⟩ : ∃ w3, w3 = w2.setRow a (progC (p.on E)) := ⟨_, rfl⟩
  rw [show w2.setRow a (progC (p.on E)) = w3 from hw3.symm]
  have HT := Lib.hid (show TwoAt w a b (p.on E) w3 by rw [hw3]; exact HT.out.setRow _)
  clear hw3
  obtain ⟨P, hP⟩ : ∃ P, P = pos E (p.len - p.at_) p.at_ p.last := ⟨_, rfl⟩
  have HPV := Lib.hid hP
  have hon : p.on E = { p with at_ := P } := by rw [hP]; exact on_next HN.out HO.out
  rw [hon] at HT
  have hPl : P < p.len := by rw [hP]; exact HPL.out
  have HTO := HT
  clear hon hP
  have c3 : w3.cell? ⟨a, 3, none⟩ = some (.bool false) := by rw [← HO.out]; exact cell_at HT.out.va 3
  have c0 : w3.cell? ⟨a, 0, none⟩ = some (.slice p.ao p.len p.cap) := cell_at HT.out.va 0
  have c1 : w3.cell? ⟨a, 1, none⟩ = some (.int .i64 P) := cell_at HT.out.va 1
  have c2 : w3.cell? ⟨a, 2, none⟩ = some (.int .u32 p.last) := cell_at HT.out.va 2
  obtain ⟨ib, off, hao, _, hib, i0, i1, i2⟩ := (HI.out.below HT.out.low).cell P hPl
  rw [hao] at c0
  obtain ⟨op, ad, v, hx⟩ : ∃ op ad v, E P = ⟨op, ad, v⟩ := ⟨_, _, _, rfl⟩
  have hv : U v := by have := HI.out.v_u P; rw [hx] at this; exact this
  rw [hx] at i0 i1 i2
  have HX := Lib.hid hx
  have HV := Lib.hid hv
  have hPl1 : (P : Int) < (p.len : Int) := by omega
  clear hx hv hao hib
  obtain ⟨da, hda⟩ : ∃ da, da = addrOf ⟨op, ad, v⟩ p.last := ⟨_, rfl⟩
  have HAD := Lib.hid (show ∀ w : World, Calls Try.prog 22 #[.agg #[.int .i64 op, .int .i64 ad, .int .u32 v], .int .u32 p.last] w fun e w' => e = .returned (.int .i64 da) ∧ Below w.heap.size w w' from fun w => by rw [hda]; exact addr_any w op ad v p.last HV.out HU.out)
  have HDA := Lib.hid (show da = addrOf (E P) p.last by rw [hda, HX.out])
  clear hda
  go_upto_region 7 with fail
  obtain ⟨w4, hw4⟩ : ∃ w4, w4 = w3.alloc (.cells #[.int .i64 op, .int .i64 ad, .int .u32 v] 51) := ⟨_, rfl⟩
  rw [show w3.alloc (.cells #[.int .i64 op, .int .i64 ad, .int .u32 v] 51) = w4 from hw4.symm]
  have hb4 : Below w3.heap.size w3 w4 := by rw [hw4]; exact below_one
  have HXX : Hid (w4.heap[w3.heap.size]? = some (.cells #[.int .i64 op, .int .i64 ad, .int .u32 v] 51 (0, 0))) := Lib.hid (by rw [hw4]; exact heap_alloc_new w3 _)
  have HT := Lib.hid (HT.out.below hb4)
  have hxa : a < w3.heap.size := by have := hb4.size; have := lt_of_heap HTO.out.va; omega
  obtain ⟨xb, hxb⟩ : ∃ xb, xb = w3.heap.size := ⟨_, rfl⟩
  rw [← hxb] at HXX hxa ⊢
  clear hw4 hb4 hxb c0 c1 c2 c3 i0 i1 i2 hPl1
  have i0 := cell_at HXX.out 0
  have i1 := cell_at HXX.out 1
  have i2 := cell_at HXX.out 2
  have c2 : w4.cell? ⟨a, 2, none⟩ = some (.int .u32 p.last) := cell_at HT.out.va 2
  have hbad : da < 0 ∨ (kk : Int) ≤ da := by
    have h := HOUT.out
    rw [← HPV.out, ← HDA.out, HR.out.len] at h
    by_cases h1 : 0 ≤ da ∧ da < kk
    · rw [okAt_yes h1.1 h1.2] at h; cases h
    · omega
  rcases hbad with hbad | hbad
  all_goals
    first
      | (have hneg : ¬ da < 0 := by omega)
      | skip
    go_wp2_with fail
    refine (HAD.out _).mono ?_; rintro e w5 ⟨rfl, hb5⟩
    have HT := Lib.hid (HT.out.below hb5)
    have c3 : w5.cell? ⟨a, 3, none⟩ = some (.bool p.over) := cell_at HT.out.va 3
    have f3 := free_at HT.out.va 3
    clear hb5 c2 i0 i1 i2
    go_upto_region 10 with fail
    have HT := Lib.hid (HT.out.set (p' := { p with at_ := P, over := true }) 3 (.bool true) rfl)
    obtain ⟨w6, hw6⟩ : ∃ w6, w6 = w5.setCell ⟨a, 3, none⟩ (.bool true) := ⟨_, rfl⟩
    rw [← hw6] at HT
    rw [show w5.setCell ⟨a, 3, none⟩ (.bool true) = w6 from hw6.symm]
    have c4 : w6.cell? ⟨a, 4, none⟩ = some (.int .i64 p.err) := cell_at HT.out.va 4
    have f4 := free_at HT.out.va 4
    clear hw6 c3 f3
    go_upto_region 11 with fail
    have HT := Lib.hid (HT.out.set (p' := { p with at_ := P, over := true, err := 2 }) 4 (.int .i64 2) rfl)
    obtain ⟨w7, hw7⟩ : ∃ w7, w7 = w6.setCell ⟨a, 4, none⟩ (.int .i64 2) := ⟨_, rfl⟩
    rw [← hw7] at HT
    rw [show w6.setCell ⟨a, 4, none⟩ (.int .i64 2) = w7 from hw7.symm]
    clear hw7 c4 f4
    go_wp2_with (first
      | (refine wpList_load_row rfl 38 (.tmp 2) rfl a rfl 38 (progC { p with at_ := P, over := true, err := 2 }) (0, 0) _ HT.out.va Try.underlying38 rfl (progC_info _) ?_)
      | (refine wpList_store_row rfl 38 (.tmp 4) (.tmp 39) rfl b (progC { p with at_ := P, over := true, err := 2 }) rfl rfl 38 progZ HT.out.vb (progC_info _) rfl (progC_one _) ?_)
      | fail)
    rw [← HPV.out]
    refine bodyPost_ret (v := .tuple #[.agg (progC { p with at_ := P, over := true, err := 2 }), .slice (some ⟨gb, 0, none⟩) kk kk]) (results_cell_tmp rfl _ _ b 38 _ (0, 0) _ _ rfl rfl (setRow_heap _ _ _ _ _ _ HT.out.vb) Try.underlying38 rfl (progC_info _)) rfl ⟨gb, rfl, ?_, .inl rfl, ?_⟩
    · exact HR.out.old (below_setRow HT.out.low (by have := HAB.out; omega) _)
    · exact below_setRow HT.out.low (by have := HAB.out; omega) _

set_option maxHeartbeats 2000000 in
theorem rstep_load0 {w : World} {D : Nat → Prop} {E : Nat → Ins} (p : PS) (cs : List Int) (kk gb : Nat) (hI : InsAt w D p.ao p.len E) (hu : U p.last) (hl : p.len ≤ 60) (hat : p.at_ ≤ p.len) (ho : p.over = false) (hn : nxt E (p.len - p.at_) p.at_ p.last = true) (hpl : pos E (p.len - p.at_) p.at_ p.last < p.len) (hop : (E (pos E (p.len - p.at_) p.at_ p.last)).op = 0) (hin : okAt cs.length (addrOf (E (pos E (p.len - p.at_) p.at_ p.last)) p.last) = true) (hmade : p.made < 1000000) (hk : kk ≤ 65536) (hrow : RowAt w gb cs kk) :
    Calls Try.prog 12 #[.agg (progC p), .slice (some ⟨gb, 0, none⟩) kk kk] w fun e w' => ∃ gb', e = .returned (.tuple #[.agg (progC (p.step E cs).1), .slice (some ⟨gb', 0, none⟩) kk kk]) ∧ RowAt w' gb' (p.step E cs).2 kk ∧ (gb' = gb ∨ w.heap.size ≤ gb') ∧ Below w.heap.size w w' := by
  have HI := Lib.hid hI
  have HU := Lib.hid hu
  have HL := Lib.hid (show p.len ≤ 100 by omega)
  have HL60 := Lib.hid hl
  have HAT := Lib.hid hat
  have HO := Lib.hid ho
  have HIN := Lib.hid hin
  have HOP := Lib.hid hop
  have HMK := Lib.hid (run_make_u32 kk hk)
  have HKK := Lib.hid hk
  have HE := Lib.hid (show p.step E cs = ((({ p with at_ := pos E (p.len - p.at_) p.at_ p.last + 1, last := thenOf cs (E (pos E (p.len - p.at_) p.at_ p.last)) p.last, made := p.made + 1 } : PS).on E), behind cs (E (pos E (p.len - p.at_) p.at_ p.last)) p.last) by unfold PS.step; rw [ho, hn, hin]; simp)
  rw [HE.out]
  have HR := Lib.hid hrow
  have HN := Lib.hid hn
  have HPL := Lib.hid hpl
  clear hin hop hk hI hu hl hat ho hn hrow hpl
  go_enter Try.func12, Try.ntmps12
  go_upto_region 1 with fail
  have HT : Hid (TwoAt w w.heap.size (w.heap.size + 1) p ((w.alloc (.cells (progC p) 38)).alloc (.cells progZ 38))) := Lib.hid ⟨heap2_0 w _ _, heap2_1 w _ _, below_al2, Nat.le_refl _, by omega⟩
  obtain ⟨wx, hwx⟩ : ∃ wx, wx = (w.alloc (.cells (progC p) 38)).alloc (.cells progZ 38) := ⟨_, rfl⟩
  rw [← hwx] at HT
  rw [show (w.alloc (.cells (progC p) 38)).alloc (.cells #[.slice none 0 0, .int .i64 0, .int .u32 0, .bool false, .int .i64 0, .int .i64 0] 38) = wx from hwx.symm]
  obtain ⟨a, ha⟩ : ∃ a, a = w.heap.size := ⟨_, rfl⟩
  obtain ⟨b, hb⟩ : ∃ b, b = w.heap.size + 1 := ⟨_, rfl⟩
  rw [← hb, ← ha] at HT ⊢
  have hab : w.heap.size ≤ a ∧ a < b := by omega
  have HAB := Lib.hid hab
  clear ha hb hwx hab
  have c3 : wx.cell? ⟨a, 3, none⟩ = some (.bool false) := by rw [← HO.out]; exact cell_at HT.out.va 3
  go_wp2_with (first
    | (refine wpList_load_row rfl 38 (.tmp 2) rfl a rfl 38 (progC p) (0, 0) _ HT.out.va Try.underlying38 rfl (progC_info _) ?_)
    | fail)
  refine (on_any p (HI.out.below HT.out.low) HU.out HL.out HAT.out).mono ?_; rintro e w2 ⟨rfl, hb2⟩
  have HT := Lib.hid (HT.out.below hb2)
  clear hb2 c3
  go_upto_region 4 with (first
    | (refine wpList_store_row rfl 38 (.tmp 2) (.tmp 14) rfl a (progC (p.on E)) rfl rfl 38 (progC p) HT.out.va (progC_info _) rfl (progC_one _) ?_)
    | fail)
  obtain ⟨w3, hw3⟩ : ∃ w3, w3 = w2.setRow a (progC (p.on E)) := ⟨_, rfl⟩
  rw [show w2.setRow a (progC (p.on E)) = w3 from hw3.symm]
  have HT := Lib.hid (show TwoAt w a b (p.on E) w3 by rw [hw3]; exact HT.out.setRow _)
  clear hw3
  obtain ⟨P, hP⟩ : ∃ P, P = pos E (p.len - p.at_) p.at_ p.last := ⟨_, rfl⟩
  have HPV := Lib.hid hP
  have hon : p.on E = { p with at_ := P } := by rw [hP]; exact on_next HN.out HO.out
  rw [hon] at HT
  have hPl : P < p.len := by rw [hP]; exact HPL.out
  have HTO := HT
  clear hon hP
  have c3 : w3.cell? ⟨a, 3, none⟩ = some (.bool false) := by rw [← HO.out]; exact cell_at HT.out.va 3
  have c0 : w3.cell? ⟨a, 0, none⟩ = some (.slice p.ao p.len p.cap) := cell_at HT.out.va 0
  have c1 : w3.cell? ⟨a, 1, none⟩ = some (.int .i64 P) := cell_at HT.out.va 1
  have c2 : w3.cell? ⟨a, 2, none⟩ = some (.int .u32 p.last) := cell_at HT.out.va 2
  obtain ⟨ib, off, hao, _, hib, i0, i1, i2⟩ := (HI.out.below HT.out.low).cell P hPl
  rw [hao] at c0
  obtain ⟨op, ad, v, hx⟩ : ∃ op ad v, E P = ⟨op, ad, v⟩ := ⟨_, _, _, rfl⟩
  have hv : U v := by have := HI.out.v_u P; rw [hx] at this; exact this
  rw [hx] at i0 i1 i2
  have HX := Lib.hid hx
  have HV := Lib.hid hv
  have hPl1 : (P : Int) < (p.len : Int) := by omega
  clear hx hv hao hib
  obtain rfl : op = 0 := by have := HOP.out; rw [← HPV.out, HX.out] at this; exact this
  obtain ⟨da, hda⟩ : ∃ da, da = addrOf ⟨0, ad, v⟩ p.last := ⟨_, rfl⟩
  have HAD := Lib.hid (show ∀ w : World, Calls Try.prog 22 #[.agg #[.int .i64 0, .int .i64 ad, .int .u32 v], .int .u32 p.last] w fun e w' => e = .returned (.int .i64 da) ∧ Below w.heap.size w w' from fun w => by rw [hda]; exact addr_any w 0 ad v p.last HV.out HU.out)
  have HDA := Lib.hid (show da = addrOf (E P) p.last by rw [hda, HX.out])
  clear hda
  go_upto_region 7 with fail
  obtain ⟨w4, hw4⟩ : ∃ w4, w4 = w3.alloc (.cells #[.int .i64 0, .int .i64 ad, .int .u32 v] 51) := ⟨_, rfl⟩
  rw [show w3.alloc (.cells #[.int .i64 0, .int .i64 ad, .int .u32 v] 51) = w4 from hw4.symm]
  have hb4 : Below w3.heap.size w3 w4 := by rw [hw4]; exact below_one
  have HXX : Hid (w4.heap[w3.heap.size]? = some (.cells #[.int .i64 0, .int .i64 ad, .int .u32 v] 51 (0, 0))) := Lib.hid (by rw [hw4]; exact heap_alloc_new w3 _)
  have HT := Lib.hid (HT.out.below hb4)
  have hxa : a < w3.heap.size := by have := hb4.size; have := lt_of_heap HTO.out.va; omega
  obtain ⟨xb, hxb⟩ : ∃ xb, xb = w3.heap.size := ⟨_, rfl⟩
  rw [← hxb] at HXX hxa ⊢
  clear hw4 hb4 hxb c0 c1 c2 c3 i0 i1 i2 hPl1
  have i0 := cell_at HXX.out 0
  have i1 := cell_at HXX.out 1
  have i2 := cell_at HXX.out 2
  have c2 : w4.cell? ⟨a, 2, none⟩ = some (.int .u32 p.last) := cell_at HT.out.va 2
  obtain ⟨hd0, hd1⟩ : 0 ≤ da ∧ da < kk := by
    have h := HIN.out
    rw [← HPV.out, ← HDA.out, HR.out.len] at h
    by_cases h1 : 0 ≤ da ∧ da < kk
    · exact h1
    · rw [okAt_no (by omega)] at h; cases h
  obtain ⟨n, rfl⟩ := Int.eq_ofNat_of_zero_le hd0
  have hdn : n < kk := by omega
  have hdi : (n : Int) < (kk : Int) := by omega
  clear hd0 hd1
  go_upto_region 12 with (go_at_call 22; refine (HAD.out _).mono ?_; rintro e w5 ⟨rfl, hb5⟩; have HT := Lib.hid (HT.out.below hb5); have HX5 := Lib.hid ((hb5.block _ (lt_of_heap HXX.out)).trans HXX.out); clear hb5 c2 i0 i1 i2 HXX)
  have c1 : w5.cell? ⟨a, 1, none⟩ = some (.int .i64 P) := cell_at HT.out.va 1
  have f1 := free_at HT.out.va 1
  have hPb : (P : Int) ≤ 100 := by have := HL60.out; omega
  go_upto_region 13 with fail
  have HT := Lib.hid (HT.out.set (p' := { p with at_ := P + 1 }) 1 (.int .i64 ((P + 1 : Nat) : Int)) rfl)
  obtain ⟨w6, hw6⟩ : ∃ w6, w6 = w5.setCell ⟨a, 1, none⟩ (.int .i64 ((P + 1 : Nat) : Int)) := ⟨_, rfl⟩
  rw [← hw6] at HT
  rw [show w5.setCell ⟨a, 1, none⟩ (.int .i64 ((P : Int) + 1)) = w6 from hw6.symm]
  have HX6 := Lib.hid (show w6.heap[xb]? = some (.cells #[.int .i64 0, .int .i64 ad, .int .u32 v] 51 (0, 0)) by rw [hw6, Below.heap_setCell _ _ _ _ (by simp only; omega)]; exact HX5.out)
  clear hw6 c1 f1 HX5
  have c5 : w6.cell? ⟨a, 5, none⟩ = some (.int .i64 p.made) := cell_at HT.out.va 5
  have f5 := free_at HT.out.va 5
  go_upto_region 14 with fail
  have HT := Lib.hid (HT.out.set (p' := { p with at_ := P + 1, made := p.made + 1 }) 5 (.int .i64 ((p.made + 1 : Nat) : Int)) rfl)
  obtain ⟨w7, hw7⟩ : ∃ w7, w7 = w6.setCell ⟨a, 5, none⟩ (.int .i64 ((p.made + 1 : Nat) : Int)) := ⟨_, rfl⟩
  rw [← hw7] at HT
  rw [show w6.setCell ⟨a, 5, none⟩ (.int .i64 ((p.made : Int) + 1)) = w7 from hw7.symm]
  have HX7 := Lib.hid (show w7.heap[xb]? = some (.cells #[.int .i64 0, .int .i64 ad, .int .u32 v] 51 (0, 0)) by rw [hw7, Below.heap_setCell _ _ _ _ (by simp only; omega)]; exact HX6.out)
  clear hw7 c5 f5 HX6
  have i0 := cell_at HX7.out 0
  have i1 := cell_at HX7.out 1
  have i2 := cell_at HX7.out 2
  obtain ⟨z, hz⟩ : ∃ z, z = cs.getD n 0 := ⟨_, rfl⟩
  have hg : w7.cell? ⟨gb, n, none⟩ = some (.int .u32 z) := by
    rw [hz]
    refine cell_u32 (HR.out.old HT.out.low).row ?_
    have := HR.out.len
    rw [List.getD_eq_getElem?_getD, List.getElem?_eq_getElem (by omega)]; rfl
  have HZ := Lib.hid (show U z ∧ thenOf cs (E P) p.last = z ∧ behind cs (E P) p.last = cs by
    refine ⟨by rw [hz]; exact u_getD HR.out.u _, ?_, ?_⟩
    · rw [thenOf, ← HDA.out, HX.out, hz]; simp [Ins.after]
    · rw [behind, HX.out]; simp)
  have c2 : w7.cell? ⟨a, 2, none⟩ = some (.int .u32 p.last) := cell_at HT.out.va 2
  have f2 := free_at HT.out.va 2
  clear hz
  go_upto_region 26 with fail
  have HT := Lib.hid (HT.out.set (p' := { p with at_ := P + 1, last := z, made := p.made + 1 }) 2 (.int .u32 z) rfl)
  obtain ⟨w8, hw8⟩ : ∃ w8, w8 = w7.setCell ⟨a, 2, none⟩ (.int .u32 z) := ⟨_, rfl⟩
  rw [← hw8] at HT
  rw [show w7.setCell ⟨a, 2, none⟩ (.int .u32 z) = w8 from hw8.symm]
  clear hw8 c2 f2 hg i0 i1 i2
  go_wp2_with (first
    | (refine wpList_load_row rfl 38 (.tmp 2) rfl a rfl 38 (progC { p with at_ := P + 1, last := z, made := p.made + 1 }) (0, 0) _ HT.out.va Try.underlying38 rfl (progC_info _) ?_)
    | fail)
  refine (on_any { p with at_ := P + 1, last := z, made := p.made + 1 } (HI.out.below HT.out.low) HZ.out.1 HL.out (by simp only; omega)).mono ?_; rintro e w9 ⟨rfl, hb9⟩
  have HT := Lib.hid (HT.out.below hb9)
  clear hb9
  obtain ⟨pe, hpe⟩ : ∃ pe, pe = ({ p with at_ := P + 1, last := z, made := p.made + 1 } : PS).on E := ⟨_, rfl⟩
  rw [← hpe]
  have HPE := Lib.hid hpe
  clear hpe
  go_wp2_with (first
    | (refine wpList_store_row rfl 38 (.tmp 4) (.tmp 86) rfl b (progC pe) rfl rfl 38 progZ HT.out.vb (progC_info _) rfl (progC_one _) ?_)
    | fail)
  rw [← HPV.out, HZ.out.2.1, HZ.out.2.2, ← HPE.out]
  refine bodyPost_ret (v := .tuple #[.agg (progC pe), .slice (some ⟨gb, 0, none⟩) kk kk]) (results_cell_tmp rfl _ _ b 38 _ (0, 0) _ _ rfl rfl (setRow_heap _ _ _ _ _ _ HT.out.vb) Try.underlying38 rfl (progC_info _)) rfl ⟨gb, rfl, ?_, .inl rfl, ?_⟩
  · exact HR.out.old (below_setRow HT.out.low (by have := HAB.out; omega) _)
  · exact below_setRow HT.out.low (by have := HAB.out; omega) _

set_option maxHeartbeats 2000000 in
theorem rstep_load2 {w : World} {D : Nat → Prop} {E : Nat → Ins} (p : PS) (cs : List Int) (kk gb : Nat) (hI : InsAt w D p.ao p.len E) (hu : U p.last) (hl : p.len ≤ 60) (hat : p.at_ ≤ p.len) (ho : p.over = false) (hn : nxt E (p.len - p.at_) p.at_ p.last = true) (hpl : pos E (p.len - p.at_) p.at_ p.last < p.len) (hop : (E (pos E (p.len - p.at_) p.at_ p.last)).op = 2) (hin : okAt cs.length (addrOf (E (pos E (p.len - p.at_) p.at_ p.last)) p.last) = true) (hmade : p.made < 1000000) (hk : kk ≤ 65536) (hrow : RowAt w gb cs kk) :
    Calls Try.prog 12 #[.agg (progC p), .slice (some ⟨gb, 0, none⟩) kk kk] w fun e w' => ∃ gb', e = .returned (.tuple #[.agg (progC (p.step E cs).1), .slice (some ⟨gb', 0, none⟩) kk kk]) ∧ RowAt w' gb' (p.step E cs).2 kk ∧ (gb' = gb ∨ w.heap.size ≤ gb') ∧ Below w.heap.size w w' := by
  have HI := Lib.hid hI
  have HU := Lib.hid hu
  have HL := Lib.hid (show p.len ≤ 100 by omega)
  have HL60 := Lib.hid hl
  have HAT := Lib.hid hat
  have HO := Lib.hid ho
  have HIN := Lib.hid hin
  have HOP := Lib.hid hop
  have HMK := Lib.hid (run_make_u32 kk hk)
  have HKK := Lib.hid hk
  have HE := Lib.hid (show p.step E cs = ((({ p with at_ := pos E (p.len - p.at_) p.at_ p.last + 1, last := thenOf cs (E (pos E (p.len - p.at_) p.at_ p.last)) p.last, made := p.made + 1 } : PS).on E), behind cs (E (pos E (p.len - p.at_) p.at_ p.last)) p.last) by unfold PS.step; rw [ho, hn, hin]; simp)
  rw [HE.out]
  have HR := Lib.hid hrow
  have HN := Lib.hid hn
  have HPL := Lib.hid hpl
  clear hin hop hk hI hu hl hat ho hn hrow hpl
  go_enter Try.func12, Try.ntmps12
  go_upto_region 1 with fail
  have HT : Hid (TwoAt w w.heap.size (w.heap.size + 1) p ((w.alloc (.cells (progC p) 38)).alloc (.cells progZ 38))) := Lib.hid ⟨heap2_0 w _ _, heap2_1 w _ _, below_al2, Nat.le_refl _, by omega⟩
  obtain ⟨wx, hwx⟩ : ∃ wx, wx = (w.alloc (.cells (progC p) 38)).alloc (.cells progZ 38) := ⟨_, rfl⟩
  rw [← hwx] at HT
  rw [show (w.alloc (.cells (progC p) 38)).alloc (.cells #[.slice none 0 0, .int .i64 0, .int .u32 0, .bool false, .int .i64 0, .int .i64 0] 38) = wx from hwx.symm]
  obtain ⟨a, ha⟩ : ∃ a, a = w.heap.size := ⟨_, rfl⟩
  obtain ⟨b, hb⟩ : ∃ b, b = w.heap.size + 1 := ⟨_, rfl⟩
  rw [← hb, ← ha] at HT ⊢
  have hab : w.heap.size ≤ a ∧ a < b := by omega
  have HAB := Lib.hid hab
  clear ha hb hwx hab
  have c3 : wx.cell? ⟨a, 3, none⟩ = some (.bool false) := by rw [← HO.out]; exact cell_at HT.out.va 3
  go_wp2_with (first
    | (refine wpList_load_row rfl 38 (.tmp 2) rfl a rfl 38 (progC p) (0, 0) _ HT.out.va Try.underlying38 rfl (progC_info _) ?_)
    | fail)
  refine (on_any p (HI.out.below HT.out.low) HU.out HL.out HAT.out).mono ?_; rintro e w2 ⟨rfl, hb2⟩
  have HT := Lib.hid (HT.out.below hb2)
  clear hb2 c3
  go_upto_region 4 with (first
    | (refine wpList_store_row rfl 38 (.tmp 2) (.tmp 14) rfl a (progC (p.on E)) rfl rfl 38 (progC p) HT.out.va (progC_info _) rfl (progC_one _) ?_)
    | fail)
  obtain ⟨w3, hw3⟩ : ∃ w3, w3 = w2.setRow a (progC (p.on E)) := ⟨_, rfl⟩
  rw [show w2.setRow a (progC (p.on E)) = w3 from hw3.symm]
  have HT := Lib.hid (show TwoAt w a b (p.on E) w3 by rw [hw3]; exact HT.out.setRow _)
  clear hw3
  obtain ⟨P, hP⟩ : ∃ P, P = pos E (p.len - p.at_) p.at_ p.last := ⟨_, rfl⟩
  have HPV := Lib.hid hP
  have hon : p.on E = { p with at_ := P } := by rw [hP]; exact on_next HN.out HO.out
  rw [hon] at HT
  have hPl : P < p.len := by rw [hP]; exact HPL.out
  have HTO := HT
  clear hon hP
  have c3 : w3.cell? ⟨a, 3, none⟩ = some (.bool false) := by rw [← HO.out]; exact cell_at HT.out.va 3
  have c0 : w3.cell? ⟨a, 0, none⟩ = some (.slice p.ao p.len p.cap) := cell_at HT.out.va 0
  have c1 : w3.cell? ⟨a, 1, none⟩ = some (.int .i64 P) := cell_at HT.out.va 1
  have c2 : w3.cell? ⟨a, 2, none⟩ = some (.int .u32 p.last) := cell_at HT.out.va 2
  obtain ⟨ib, off, hao, _, hib, i0, i1, i2⟩ := (HI.out.below HT.out.low).cell P hPl
  rw [hao] at c0
  obtain ⟨op, ad, v, hx⟩ : ∃ op ad v, E P = ⟨op, ad, v⟩ := ⟨_, _, _, rfl⟩
  have hv : U v := by have := HI.out.v_u P; rw [hx] at this; exact this
  rw [hx] at i0 i1 i2
  have HX := Lib.hid hx
  have HV := Lib.hid hv
  have hPl1 : (P : Int) < (p.len : Int) := by omega
  clear hx hv hao hib
  obtain rfl : op = 2 := by have := HOP.out; rw [← HPV.out, HX.out] at this; exact this
  obtain ⟨da, hda⟩ : ∃ da, da = addrOf ⟨2, ad, v⟩ p.last := ⟨_, rfl⟩
  have HAD := Lib.hid (show ∀ w : World, Calls Try.prog 22 #[.agg #[.int .i64 2, .int .i64 ad, .int .u32 v], .int .u32 p.last] w fun e w' => e = .returned (.int .i64 da) ∧ Below w.heap.size w w' from fun w => by rw [hda]; exact addr_any w 2 ad v p.last HV.out HU.out)
  have HDA := Lib.hid (show da = addrOf (E P) p.last by rw [hda, HX.out])
  clear hda
  go_upto_region 7 with fail
  obtain ⟨w4, hw4⟩ : ∃ w4, w4 = w3.alloc (.cells #[.int .i64 2, .int .i64 ad, .int .u32 v] 51) := ⟨_, rfl⟩
  rw [show w3.alloc (.cells #[.int .i64 2, .int .i64 ad, .int .u32 v] 51) = w4 from hw4.symm]
  have hb4 : Below w3.heap.size w3 w4 := by rw [hw4]; exact below_one
  have HXX : Hid (w4.heap[w3.heap.size]? = some (.cells #[.int .i64 2, .int .i64 ad, .int .u32 v] 51 (0, 0))) := Lib.hid (by rw [hw4]; exact heap_alloc_new w3 _)
  have HT := Lib.hid (HT.out.below hb4)
  have hxa : a < w3.heap.size := by have := hb4.size; have := lt_of_heap HTO.out.va; omega
  obtain ⟨xb, hxb⟩ : ∃ xb, xb = w3.heap.size := ⟨_, rfl⟩
  rw [← hxb] at HXX hxa ⊢
  clear hw4 hb4 hxb c0 c1 c2 c3 i0 i1 i2 hPl1
  have i0 := cell_at HXX.out 0
  have i1 := cell_at HXX.out 1
  have i2 := cell_at HXX.out 2
  have c2 : w4.cell? ⟨a, 2, none⟩ = some (.int .u32 p.last) := cell_at HT.out.va 2
  obtain ⟨hd0, hd1⟩ : 0 ≤ da ∧ da < kk := by
    have h := HIN.out
    rw [← HPV.out, ← HDA.out, HR.out.len] at h
    by_cases h1 : 0 ≤ da ∧ da < kk
    · exact h1
    · rw [okAt_no (by omega)] at h; cases h
  obtain ⟨n, rfl⟩ := Int.eq_ofNat_of_zero_le hd0
  have hdn : n < kk := by omega
  have hdi : (n : Int) < (kk : Int) := by omega
  clear hd0 hd1
  go_upto_region 12 with (go_at_call 22; refine (HAD.out _).mono ?_; rintro e w5 ⟨rfl, hb5⟩; have HT := Lib.hid (HT.out.below hb5); have HX5 := Lib.hid ((hb5.block _ (lt_of_heap HXX.out)).trans HXX.out); clear hb5 c2 i0 i1 i2 HXX)
  have c1 : w5.cell? ⟨a, 1, none⟩ = some (.int .i64 P) := cell_at HT.out.va 1
  have f1 := free_at HT.out.va 1
  have hPb : (P : Int) ≤ 100 := by have := HL60.out; omega
  go_upto_region 13 with fail
  have HT := Lib.hid (HT.out.set (p' := { p with at_ := P + 1 }) 1 (.int .i64 ((P + 1 : Nat) : Int)) rfl)
  obtain ⟨w6, hw6⟩ : ∃ w6, w6 = w5.setCell ⟨a, 1, none⟩ (.int .i64 ((P + 1 : Nat) : Int)) := ⟨_, rfl⟩
  rw [← hw6] at HT
  rw [show w5.setCell ⟨a, 1, none⟩ (.int .i64 ((P : Int) + 1)) = w6 from hw6.symm]
  have HX6 := Lib.hid (show w6.heap[xb]? = some (.cells #[.int .i64 2, .int .i64 ad, .int .u32 v] 51 (0, 0)) by rw [hw6, Below.heap_setCell _ _ _ _ (by simp only; omega)]; exact HX5.out)
  clear hw6 c1 f1 HX5
  have c5 : w6.cell? ⟨a, 5, none⟩ = some (.int .i64 p.made) := cell_at HT.out.va 5
  have f5 := free_at HT.out.va 5
  go_upto_region 14 with fail
  have HT := Lib.hid (HT.out.set (p' := { p with at_ := P + 1, made := p.made + 1 }) 5 (.int .i64 ((p.made + 1 : Nat) : Int)) rfl)
  obtain ⟨w7, hw7⟩ : ∃ w7, w7 = w6.setCell ⟨a, 5, none⟩ (.int .i64 ((p.made + 1 : Nat) : Int)) := ⟨_, rfl⟩
  rw [← hw7] at HT
  rw [show w6.setCell ⟨a, 5, none⟩ (.int .i64 ((p.made : Int) + 1)) = w7 from hw7.symm]
  have HX7 := Lib.hid (show w7.heap[xb]? = some (.cells #[.int .i64 2, .int .i64 ad, .int .u32 v] 51 (0, 0)) by rw [hw7, Below.heap_setCell _ _ _ _ (by simp only; omega)]; exact HX6.out)
  clear hw7 c5 f5 HX6
  have i0 := cell_at HX7.out 0
  have i1 := cell_at HX7.out 1
  have i2 := cell_at HX7.out 2
  obtain ⟨z, hz⟩ : ∃ z, z = cs.getD n 0 := ⟨_, rfl⟩
  have hg : w7.cell? ⟨gb, n, none⟩ = some (.int .u32 z) := by
    rw [hz]
    refine cell_u32 (HR.out.old HT.out.low).row ?_
    have := HR.out.len
    rw [List.getD_eq_getElem?_getD, List.getElem?_eq_getElem (by omega)]; rfl
  have HZ := Lib.hid (show U z ∧ thenOf cs (E P) p.last = z ∧ behind cs (E P) p.last = cs by
    refine ⟨by rw [hz]; exact u_getD HR.out.u _, ?_, ?_⟩
    · rw [thenOf, ← HDA.out, HX.out, hz]; simp [Ins.after]
    · rw [behind, HX.out]; simp)
  have c2 : w7.cell? ⟨a, 2, none⟩ = some (.int .u32 p.last) := cell_at HT.out.va 2
  have f2 := free_at HT.out.va 2
  clear hz
  go_upto_region 26 with fail
  have HT := Lib.hid (HT.out.set (p' := { p with at_ := P + 1, last := z, made := p.made + 1 }) 2 (.int .u32 z) rfl)
  obtain ⟨w8, hw8⟩ : ∃ w8, w8 = w7.setCell ⟨a, 2, none⟩ (.int .u32 z) := ⟨_, rfl⟩
  rw [← hw8] at HT
  rw [show w7.setCell ⟨a, 2, none⟩ (.int .u32 z) = w8 from hw8.symm]
  clear hw8 c2 f2 hg i0 i1 i2
  go_wp2_with (first
    | (refine wpList_load_row rfl 38 (.tmp 2) rfl a rfl 38 (progC { p with at_ := P + 1, last := z, made := p.made + 1 }) (0, 0) _ HT.out.va Try.underlying38 rfl (progC_info _) ?_)
    | fail)
  refine (on_any { p with at_ := P + 1, last := z, made := p.made + 1 } (HI.out.below HT.out.low) HZ.out.1 HL.out (by simp only; omega)).mono ?_; rintro e w9 ⟨rfl, hb9⟩
  have HT := Lib.hid (HT.out.below hb9)
  clear hb9
  obtain ⟨pe, hpe⟩ : ∃ pe, pe = ({ p with at_ := P + 1, last := z, made := p.made + 1 } : PS).on E := ⟨_, rfl⟩
  rw [← hpe]
  have HPE := Lib.hid hpe
  clear hpe
  go_wp2_with (first
    | (refine wpList_store_row rfl 38 (.tmp 4) (.tmp 86) rfl b (progC pe) rfl rfl 38 progZ HT.out.vb (progC_info _) rfl (progC_one _) ?_)
    | fail)
  rw [← HPV.out, HZ.out.2.1, HZ.out.2.2, ← HPE.out]
  refine bodyPost_ret (v := .tuple #[.agg (progC pe), .slice (some ⟨gb, 0, none⟩) kk kk]) (results_cell_tmp rfl _ _ b 38 _ (0, 0) _ _ rfl rfl (setRow_heap _ _ _ _ _ _ HT.out.vb) Try.underlying38 rfl (progC_info _)) rfl ⟨gb, rfl, ?_, .inl rfl, ?_⟩
  · exact HR.out.old (below_setRow HT.out.low (by have := HAB.out; omega) _)
  · exact below_setRow HT.out.low (by have := HAB.out; omega) _

end Go.Proofs.Ytdmcnlkmfohmdaa
