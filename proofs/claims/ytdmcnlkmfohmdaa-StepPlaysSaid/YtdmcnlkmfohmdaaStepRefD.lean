/-
  The reference's Step where it stores. Over the program's own text.
-/
import Derived.Test.YtdmcnlkmfohmdaaStepRefC
namespace Go.Proofs.Ytdmcnlkmfohmdaa
open Go.RowKit

theorem wrap_u32 (x : Int) : IntKind.u32.wrap x = x % 4294967296 := by simp [IntKind.wrap, IntKind.signed, IntKind.bits]

set_option maxHeartbeats 2000000 in
theorem rstep_store1 {w : World} {D : Nat → Prop} {E : Nat → Ins} (p : PS) (cs : List Int) (kk gb : Nat) (hI : InsAt w D p.ao p.len E) (hu : U p.last) (hl : p.len ≤ 60) (hat : p.at_ ≤ p.len) (ho : p.over = false) (hn : nxt E (p.len - p.at_) p.at_ p.last = true) (hpl : pos E (p.len - p.at_) p.at_ p.last < p.len) (hop : (E (pos E (p.len - p.at_) p.at_ p.last)).op = 1) (hin : okAt cs.length (addrOf (E (pos E (p.len - p.at_) p.at_ p.last)) p.last) = true) (hmade : p.made < 1000000) (hk : kk ≤ 65536) (hrow : RowAt w gb cs kk) :
    Calls Try.prog 12 #[.agg (progC p), .slice (some ⟨gb, 0, none⟩) kk kk] w fun e w' => ∃ gb', e = .returned (.tuple #[.agg (progC (p.step E cs).1), .slice (some ⟨gb', 0, none⟩) kk kk]) ∧ RowAt w' gb' (p.step E cs).2 kk ∧ (gb' = gb ∨ w.heap.size ≤ gb') ∧ Below w.heap.size w w' := by
  have HI := Lib.hid hI
  have HU := Lib.hid hu
  have HL := Lib.hid (show p.len ≤ 100 by omega)
  have HL60 := Lib.hid hl
  have HAT := Lib.hid hat
  have HO := Lib.hid ho
  have HIN := Lib.hid hin
  have HOP := Lib.hid hop
  have HMK := Lib.hid (run_make_u32 kk hk)
  have HKK := Lib.hid hk
  have HE := Lib.hid (show p.step E cs = ((({ p with at_ := pos E (p.len - p.at_) p.at_ p.last + 1, last := thenOf cs (E (pos E (p.len - p.at_) p.at_ p.last)) p.last, made := p.made + 1 } : PS).on E), behind cs (E (pos E (p.len - p.at_) p.at_ p.last)) p.last) by unfold PS.step; rw [ho, hn, hin]; simp)
  rw [HE.out]
  have HR := Lib.hid hrow
  have HN := Lib.hid hn
  have HPL := Lib.hid hpl
  clear hin hop hk hI hu hl hat ho hn hrow hpl
  go_enter Try.func12, Try.ntmps12
  go_upto_region 1 with fail
  have HT : Hid (TwoAt w w.heap.size (w.heap.size + 1) p ((w.alloc (.cells (progC p) 38)).alloc (.cells progZ 38))) := Lib.hid ⟨heap2_0 w _ _, heap2_1 w _ _, below_al2, Nat.le_refl _, by omega⟩
  obtain ⟨wx, hwx⟩ : ∃ wx, wx = (w.alloc (.cells (progC p) 38)).alloc (.cells progZ 38) := ⟨_, rfl⟩
  rw [← hwx] at HT
  rw [show (w.alloc (.cells (progC p) 38)).alloc (.cells #[.slice none 0 0, .int .i64 0, .int .u32 0, .bool false, .int .i64 0, .int .i64 0] 38) = wx from hwx.symm]
  obtain ⟨a, ha⟩ : ∃ a, a = w.heap.size := ⟨_, rfl⟩
  obtain ⟨b, hb⟩ : ∃ b, b = w.heap.size + 1 := ⟨_, rfl⟩
  rw [← hb, ← ha] at HT ⊢
  have hab : w.heap.size ≤ a ∧ a < b := by omega
  have HAB := Lib.hid hab
  clear ha hb hwx hab
  have c3 : wx.cell? ⟨a, 3, none⟩ = some (.bool false) := by rw [← HO.out]; exact cell_at HT.out.va 3
  go_wp2_with (first
    | (refine wpList_load_row rfl 38 (.tmp 2) rfl a rfl 38 (progC p) (0, 0) _ HT.out.va Try.underlying38 rfl (progC_info _) ?_)
    | fail)
  refine (on_any p (HI.out.below HT.out.low) HU.out HL.out HAT.out).mono ?_; rintro e w2 ⟨rfl, hb2⟩
  have HT := Lib.hid (HT.out.below hb2)
  clear hb2 c3
  go_upto_region 4 with (first
    | (refine wpList_store_row rfl 38 (.tmp 2) (.tmp 14) rfl a (progC (p.on E)) rfl rfl 38 (progC p) HT.out.va (progC_info _) rfl (progC_one _) ?_)
    | fail)
  obtain ⟨w3, hw3⟩ : ∃ w3, w3 = w2.setRow a (progC (p.on E)) := ⟨_, rfl⟩
  rw [show w2.setRow a (progC (p.on E)) = w3 from hw3.symm]
  have HT := Lib.hid (show TwoAt w a b (p.on E) w3 by rw [hw3]; exact HT.out.setRow _)
  clear hw3
  obtain ⟨P, hP⟩ : ∃ P, P = pos E (p.len - p.at_) p.at_ p.last := ⟨_, rfl⟩
  have HPV := Lib.hid hP
  have hon : p.on E = { p with at_ := P } := by rw [hP]; exact on_next HN.out HO.out
  rw [hon] at HT
  have hPl : P < p.len := by rw [hP]; exact HPL.out
  have HTO := HT
  clear hon hP
  have c3 : w3.cell? ⟨a, 3, none⟩ = some (.bool false) := by rw [← HO.out]; exact cell_at HT.out.va 3
  have c0 : w3.cell? ⟨a, 0, none⟩ = some (.slice p.ao p.len p.cap) := cell_at HT.out.va 0
  have c1 : w3.cell? ⟨a, 1, none⟩ = some (.int .i64 P) := cell_at HT.out.va 1
  have c2 : w3.cell? ⟨a, 2, none⟩ = some (.int .u32 p.last) := cell_at HT.out.va 2
  obtain ⟨ib, off, hao, _, hib, i0, i1, i2⟩ := (HI.out.below HT.out.low).cell P hPl
  rw [hao] at c0
  obtain ⟨op, ad, v, hx⟩ : ∃ op ad v, E P = ⟨op, ad, v⟩ := ⟨_, _, _, rfl⟩
  have hv : U v := by have := HI.out.v_u P; rw [hx] at this; exact this
  rw [hx] at i0 i1 i2
  have HX := Lib.hid hx
  have HV := Lib.hid hv
  have hPl1 : (P : Int) < (p.len : Int) := by omega
  clear hx hv hao hib
  obtain rfl : op = 1 := by have := HOP.out; rw [← HPV.out, HX.out] at this; exact this
  obtain ⟨da, hda⟩ : ∃ da, da = addrOf ⟨1, ad, v⟩ p.last := ⟨_, rfl⟩
  have HAD := Lib.hid (show ∀ w : World, Calls Try.prog 22 #[.agg #[.int .i64 1, .int .i64 ad, .int .u32 v], .int .u32 p.last] w fun e w' => e = .returned (.int .i64 da) ∧ Below w.heap.size w w' from fun w => by rw [hda]; exact addr_any w 1 ad v p.last HV.out HU.out)
  have HDA := Lib.hid (show da = addrOf (E P) p.last by rw [hda, HX.out])
  clear hda
  go_upto_region 7 with fail
  obtain ⟨w4, hw4⟩ : ∃ w4, w4 = w3.alloc (.cells #[.int .i64 1, .int .i64 ad, .int .u32 v] 51) := ⟨_, rfl⟩
  rw [show w3.alloc (.cells #[.int .i64 1, .int .i64 ad, .int .u32 v] 51) = w4 from hw4.symm]
  have hb4 : Below w3.heap.size w3 w4 := by rw [hw4]; exact below_one
  have HXX : Hid (w4.heap[w3.heap.size]? = some (.cells #[.int .i64 1, .int .i64 ad, .int .u32 v] 51 (0, 0))) := Lib.hid (by rw [hw4]; exact heap_alloc_new w3 _)
  have HT := Lib.hid (HT.out.below hb4)
  have hxa : a < w3.heap.size := by have := hb4.size; have := lt_of_heap HTO.out.va; omega
  obtain ⟨xb, hxb⟩ : ∃ xb, xb = w3.heap.size := ⟨_, rfl⟩
  rw [← hxb] at HXX hxa ⊢
  clear hw4 hb4 hxb c0 c1 c2 c3 i0 i1 i2 hPl1
  have i0 := cell_at HXX.out 0
  have i1 := cell_at HXX.out 1
  have i2 := cell_at HXX.out 2
  have c2 : w4.cell? ⟨a, 2, none⟩ = some (.int .u32 p.last) := cell_at HT.out.va 2
  obtain ⟨hd0, hd1⟩ : 0 ≤ da ∧ da < kk := by
    have h := HIN.out
    rw [← HPV.out, ← HDA.out, HR.out.len] at h
    by_cases h1 : 0 ≤ da ∧ da < kk
    · exact h1
    · rw [okAt_no (by omega)] at h; cases h
  obtain ⟨n, rfl⟩ := Int.eq_ofNat_of_zero_le hd0
  have hdn : n < kk := by omega
  have hdi : (n : Int) < (kk : Int) := by omega
  clear hd0 hd1
  go_upto_region 12 with (go_at_call 22; refine (HAD.out _).mono ?_; rintro e w5 ⟨rfl, hb5⟩; have HT := Lib.hid (HT.out.below hb5); have HX5 := Lib.hid ((hb5.block _ (lt_of_heap HXX.out)).trans HXX.out); clear hb5 c2 i0 i1 i2 HXX)
  have c1 : w5.cell? ⟨a, 1, none⟩ = some (.int .i64 P) := cell_at HT.out.va 1
  have f1 := free_at HT.out.va 1
  have hPb : (P : Int) ≤ 100 := by have := HL60.out; omega
  go_upto_region 13 with fail
  have HT := Lib.hid (HT.out.set (p' := { p with at_ := P + 1 }) 1 (.int .i64 ((P + 1 : Nat) : Int)) rfl)
  obtain ⟨w6, hw6⟩ : ∃ w6, w6 = w5.setCell ⟨a, 1, none⟩ (.int .i64 ((P + 1 : Nat) : Int)) := ⟨_, rfl⟩
  rw [← hw6] at HT
  rw [show w5.setCell ⟨a, 1, none⟩ (.int .i64 ((P : Int) + 1)) = w6 from hw6.symm]
  have HX6 := Lib.hid (show w6.heap[xb]? = some (.cells #[.int .i64 1, .int .i64 ad, .int .u32 v] 51 (0, 0)) by rw [hw6, Below.heap_setCell _ _ _ _ (by simp only; omega)]; exact HX5.out)
  clear hw6 c1 f1 HX5
  have c5 : w6.cell? ⟨a, 5, none⟩ = some (.int .i64 p.made) := cell_at HT.out.va 5
  have f5 := free_at HT.out.va 5
  go_upto_region 14 with fail
  have HT := Lib.hid (HT.out.set (p' := { p with at_ := P + 1, made := p.made + 1 }) 5 (.int .i64 ((p.made + 1 : Nat) : Int)) rfl)
  obtain ⟨w7, hw7⟩ : ∃ w7, w7 = w6.setCell ⟨a, 5, none⟩ (.int .i64 ((p.made + 1 : Nat) : Int)) := ⟨_, rfl⟩
  rw [← hw7] at HT
  rw [show w6.setCell ⟨a, 5, none⟩ (.int .i64 ((p.made : Int) + 1)) = w7 from hw7.symm]
  have HX7 := Lib.hid (show w7.heap[xb]? = some (.cells #[.int .i64 1, .int .i64 ad, .int .u32 v] 51 (0, 0)) by rw [hw7, Below.heap_setCell _ _ _ _ (by simp only; omega)]; exact HX6.out)
  clear hw7 c5 f5 HX6
  have i0 := cell_at HX7.out 0
  have i1 := cell_at HX7.out 1
  have i2 := cell_at HX7.out 2
  have hgr := (HR.out.old HT.out.low).row
  have hgl := lt_of_heap hgr
  have hnew : (w7.alloc (.cells (Array.replicate kk (Value.int .u32 0)) 36)).heap[w7.heap.size]? = some (.cells (List.replicate kk (Value.int .u32 0)).toArray 36 (0, 0)) := by
    simpa using heap_alloc_new w7 (.cells (Array.replicate kk (Value.int .u32 0)) 36)
  have HNW := Lib.hid hnew
  have hrow : ∀ (j : Nat) (v : Value), (cs.map (Value.int .u32))[j]? = some v → (w7.alloc (.cells (Array.replicate kk (Value.int .u32 0)) 36)).cell? ((⟨gb, 0, none⟩ : Addr).add j) = some v := by
    intro j v hj
    rw [Addr.add_lit, Nat.zero_add, World.cell?_of_block (w := w7) (Below.heap_alloc w7 _ gb hgl), cell_at hgr]
    simpa using hj
  have HRR := Lib.hid hrow
  have hcl := HR.out.len
  have H1 := Lib.hid (show (cs.map (Value.int .u32)).length = Nat.min kk kk by simp [hcl])
  have H3 := Lib.hid (show 0 + (cs.map (Value.int .u32)).length ≤ (List.replicate kk (Value.int .u32 0)).length by simp [hcl])
  have H4 := Lib.hid (show ∀ v ∈ cs.map (Value.int .u32), v.oneCell' = true by simp [Value.oneCell'])
  have HCL := Lib.hid hcl
  have hmk := HMK.out
  clear hnew hrow hgr hcl
  go_upto_region 22 with (with_reducible refine wpList_copy_splice rfl (.tmp 65) (.tmp 66) 29 29 rfl 36 Try.underlying29 size_u32 _ _ _ _ _ _ rfl rfl w7.heap.size 0 _ 36 HNW.out (cs.map (Value.int .u32)) H1.out (fun _ => ⟨rfl, _, rfl, HRR.out⟩) H3.out H4.out w7.heap.size w7 ((Below.refl _ _).alloc (Nat.le_refl _) _) (Nat.le_refl _) ?_; intro w8 hg8 hb8; have HG8 := Lib.hid hg8.out; have HB8 := Lib.hid hb8; clear hg8 hb8)
  have HT7 := HT
  have HT := Lib.hid (HT.out.below HB8.out)
  have hgn : w8.heap[w7.heap.size]? = some (.cells (cs.map (Value.int .u32)).toArray 36 (0, 0)) := by
    have h := HG8.out
    have hcl := HCL.out
    simpa [splice, hcl] using h
  have hX8 := (HB8.out.block xb (lt_of_heap HX7.out)).trans HX7.out
  have hag : a < w7.heap.size ∧ b < w7.heap.size ∧ xb < w7.heap.size := ⟨lt_of_heap HT7.out.va, lt_of_heap HT7.out.vb, lt_of_heap HX7.out⟩
  obtain ⟨q, hq⟩ : ∃ q, q = w7.heap.size := ⟨_, rfl⟩
  rw [← hq] at hgn hag ⊢
  have HQW := Lib.hid (show w.heap.size ≤ q by have := HAB.out; omega)
  have HGN := Lib.hid hgn
  have HX8 := Lib.hid hX8
  obtain ⟨haq, hbq, hxq⟩ := hag
  clear hgn hX8 hq HNW HRR HG8 HB8 hmk i0 i1 i2 HX7
  have i0 := cell_at HX8.out 0
  have i2 := cell_at HX8.out 2
  have g0 : w8.cell? ⟨q, n, none⟩ = some (.int .u32 (cs.getD n 0)) := cell_u32 HGN.out (by have := HCL.out; rw [List.getD_eq_getElem?_getD, List.getElem?_eq_getElem (by omega)]; rfl)
  have fg := free_at HGN.out n
  go_upto_region 23 with fail
  have HGN := Lib.hid (row_set HGN.out n v)
  have HT := Lib.hid (HT.out.other (S := fun k => k = q) (Mod.setCell (S := fun k => k = q) (Mod.refl _ _) (.inr rfl) _) (fun k hk e => by have := HQW.out; have : k = q := e; omega) (fun e => by have : a = q := e; omega) (fun e => by have : b = q := e; omega) (w' := w8.setCell ⟨q, n, none⟩ (.int .u32 v)))
  have HX9 := Lib.hid (show (w8.setCell ⟨q, n, none⟩ (.int .u32 v)).heap[xb]? = some (.cells #[.int .i64 1, .int .i64 ad, .int .u32 v] 51 (0, 0)) by rw [Below.heap_setCell _ _ _ _ (by simp only; omega)]; exact HX8.out)
  obtain ⟨w9, hw9⟩ : ∃ w9, w9 = w8.setCell ⟨q, n, none⟩ (.int .u32 v) := ⟨_, rfl⟩
  rw [← hw9] at HGN HT HX9 ⊢
  clear hw9 i0 i2 g0 fg HX8
  have i0 := cell_at HX9.out 0
  have HVV := Lib.hid (show cs.set n v = behind cs (E P) p.last ∧ U v ∧ thenOf cs (E P) p.last = p.last by
    refine ⟨?_, HV.out, ?_⟩
    · rw [behind, ← HDA.out, HX.out]; simp [Ins.val]
    · rw [thenOf, HX.out]; simp [Ins.after])
  go_upto_region 26 with fail
  clear i0
  go_wp2_with (first
    | (refine wpList_load_row rfl 38 (.tmp 2) rfl a rfl 38 (progC { p with at_ := P + 1, made := p.made + 1 }) (0, 0) _ HT.out.va Try.underlying38 rfl (progC_info _) ?_)
    | fail)
  refine (on_any { p with at_ := P + 1, made := p.made + 1 } (HI.out.below HT.out.low) HU.out HL.out (by simp only; omega)).mono ?_; rintro e w11 ⟨rfl, hb9⟩
  have HT := Lib.hid (HT.out.below hb9)
  have HGN := Lib.hid ((hb9.block _ (lt_of_heap HGN.out)).trans HGN.out)
  clear hb9
  obtain ⟨pe, hpe⟩ : ∃ pe, pe = ({ p with at_ := P + 1, made := p.made + 1 } : PS).on E := ⟨_, rfl⟩
  rw [← hpe]
  have HPE := Lib.hid hpe
  clear hpe
  go_wp2_with (first
    | (refine wpList_store_row rfl 38 (.tmp 4) (.tmp 86) rfl b (progC pe) rfl rfl 38 progZ HT.out.vb (progC_info _) rfl (progC_one _) ?_)
    | fail)
  rw [← HPV.out, HVV.out.2.2, ← HPE.out]
  refine bodyPost_ret (v := .tuple #[.agg (progC pe), .slice (some ⟨q, 0, none⟩) kk kk]) (results_cell_tmp rfl _ _ b 38 _ (0, 0) _ _ rfl rfl (setRow_heap _ _ _ _ _ _ HT.out.vb) Try.underlying38 rfl (progC_info _)) rfl ⟨q, rfl, ?_, .inr HQW.out, ?_⟩
  · refine ⟨?_, by rw [← HVV.out.1]; simpa using HCL.out, fun x hx => ?_⟩
    · rw [← HVV.out.1]; exact (setRow_other _ _ _ _ (by omega)).trans HGN.out
    · rw [← HVV.out.1] at hx
      rcases List.mem_or_eq_of_mem_set hx with hx | hx
      · first
          | exact HR.out.u x hx
          | (rcases List.mem_or_eq_of_mem_set hx with hx | hx
             · exact HR.out.u x hx
             · rw [hx]; exact HV.out)
      · rw [hx]; exact HVV.out.2.1
  · exact below_setRow HT.out.low (by have := HAB.out; omega) _

set_option maxHeartbeats 2000000 in
theorem rstep_store3 {w : World} {D : Nat → Prop} {E : Nat → Ins} (p : PS) (cs : List Int) (kk gb : Nat) (hI : InsAt w D p.ao p.len E) (hu : U p.last) (hl : p.len ≤ 60) (hat : p.at_ ≤ p.len) (ho : p.over = false) (hn : nxt E (p.len - p.at_) p.at_ p.last = true) (hpl : pos E (p.len - p.at_) p.at_ p.last < p.len) (hop : (E (pos E (p.len - p.at_) p.at_ p.last)).op = 3) (hin : okAt cs.length (addrOf (E (pos E (p.len - p.at_) p.at_ p.last)) p.last) = true) (hmade : p.made < 1000000) (hk : kk ≤ 65536) (hrow : RowAt w gb cs kk) :
    Calls Try.prog 12 #[.agg (progC p), .slice (some ⟨gb, 0, none⟩) kk kk] w fun e w' => ∃ gb', e = .returned (.tuple #[.agg (progC (p.step E cs).1), .slice (some ⟨gb', 0, none⟩) kk kk]) ∧ RowAt w' gb' (p.step E cs).2 kk ∧ (gb' = gb ∨ w.heap.size ≤ gb') ∧ Below w.heap.size w w' := by
  have HI := Lib.hid hI
  have HU := Lib.hid hu
  have HL := Lib.hid (show p.len ≤ 100 by omega)
  have HL60 := Lib.hid hl
  have HAT := Lib.hid hat
  have HO := Lib.hid ho
  have HIN := Lib.hid hin
  have HOP := Lib.hid hop
  have HMK := Lib.hid (run_make_u32 kk hk)
  have HKK := Lib.hid hk
  have HE := Lib.hid (show p.step E cs = ((({ p with at_ := pos E (p.len - p.at_) p.at_ p.last + 1, last := thenOf cs (E (pos E (p.len - p.at_) p.at_ p.last)) p.last, made := p.made + 1 } : PS).on E), behind cs (E (pos E (p.len - p.at_) p.at_ p.last)) p.last) by unfold PS.step; rw [ho, hn, hin]; simp)
  rw [HE.out]
  have HR := Lib.hid hrow
  have HN := Lib.hid hn
  have HPL := Lib.hid hpl
  clear hin hop hk hI hu hl hat ho hn hrow hpl
  go_enter Try.func12, Try.ntmps12
  go_upto_region 1 with fail
  have HT : Hid (TwoAt w w.heap.size (w.heap.size + 1) p ((w.alloc (.cells (progC p) 38)).alloc (.cells progZ 38))) := Lib.hid ⟨heap2_0 w _ _, heap2_1 w _ _, below_al2, Nat.le_refl _, by omega⟩
  obtain ⟨wx, hwx⟩ : ∃ wx, wx = (w.alloc (.cells (progC p) 38)).alloc (.cells progZ 38) := ⟨_, rfl⟩
  rw [← hwx] at HT
  rw [show (w.alloc (.cells (progC p) 38)).alloc (.cells #[.slice none 0 0, .int .i64 0, .int .u32 0, .bool false, .int .i64 0, .int .i64 0] 38) = wx from hwx.symm]
  obtain ⟨a, ha⟩ : ∃ a, a = w.heap.size := ⟨_, rfl⟩
  obtain ⟨b, hb⟩ : ∃ b, b = w.heap.size + 1 := ⟨_, rfl⟩
  rw [← hb, ← ha] at HT ⊢
  have hab : w.heap.size ≤ a ∧ a < b := by omega
  have HAB := Lib.hid hab
  clear ha hb hwx hab
  have c3 : wx.cell? ⟨a, 3, none⟩ = some (.bool false) := by rw [← HO.out]; exact cell_at HT.out.va 3
  go_wp2_with (first
    | (refine wpList_load_row rfl 38 (.tmp 2) rfl a rfl 38 (progC p) (0, 0) _ HT.out.va Try.underlying38 rfl (progC_info _) ?_)
    | fail)
  refine (on_any p (HI.out.below HT.out.low) HU.out HL.out HAT.out).mono ?_; rintro e w2 ⟨rfl, hb2⟩
  have HT := Lib.hid (HT.out.below hb2)
  clear hb2 c3
  go_upto_region 4 with (first
    | (refine wpList_store_row rfl 38 (.tmp 2) (.tmp 14) rfl a (progC (p.on E)) rfl rfl 38 (progC p) HT.out.va (progC_info _) rfl (progC_one _) ?_)
    | fail)
  obtain ⟨w3, hw3⟩ : ∃ w3, w3 = w2.setRow a (progC (p.on E)) := ⟨_, rfl⟩
  rw [show w2.setRow a (progC (p.on E)) = w3 from hw3.symm]
  have HT := Lib.hid (show TwoAt w a b (p.on E) w3 by rw [hw3]; exact HT.out.setRow _)
  clear hw3
  obtain ⟨P, hP⟩ : ∃ P, P = pos E (p.len - p.at_) p.at_ p.last := ⟨_, rfl⟩
  have HPV := Lib.hid hP
  have hon : p.on E = { p with at_ := P } := by rw [hP]; exact on_next HN.out HO.out
  rw [hon] at HT
  have hPl : P < p.len := by rw [hP]; exact HPL.out
  have HTO := HT
  clear hon hP
  have c3 : w3.cell? ⟨a, 3, none⟩ = some (.bool false) := by rw [← HO.out]; exact cell_at HT.out.va 3
  have c0 : w3.cell? ⟨a, 0, none⟩ = some (.slice p.ao p.len p.cap) := cell_at HT.out.va 0
  have c1 : w3.cell? ⟨a, 1, none⟩ = some (.int .i64 P) := cell_at HT.out.va 1
  have c2 : w3.cell? ⟨a, 2, none⟩ = some (.int .u32 p.last) := cell_at HT.out.va 2
  obtain ⟨ib, off, hao, _, hib, i0, i1, i2⟩ := (HI.out.below HT.out.low).cell P hPl
  rw [hao] at c0
  obtain ⟨op, ad, v, hx⟩ : ∃ op ad v, E P = ⟨op, ad, v⟩ := ⟨_, _, _, rfl⟩
  have hv : U v := by have := HI.out.v_u P; rw [hx] at this; exact this
  rw [hx] at i0 i1 i2
  have HX := Lib.hid hx
  have HV := Lib.hid hv
  have hPl1 : (P : Int) < (p.len : Int) := by omega
  clear hx hv hao hib
  obtain rfl : op = 3 := by have := HOP.out; rw [← HPV.out, HX.out] at this; exact this
  obtain ⟨da, hda⟩ : ∃ da, da = addrOf ⟨3, ad, v⟩ p.last := ⟨_, rfl⟩
  have HAD := Lib.hid (show ∀ w : World, Calls Try.prog 22 #[.agg #[.int .i64 3, .int .i64 ad, .int .u32 v], .int .u32 p.last] w fun e w' => e = .returned (.int .i64 da) ∧ Below w.heap.size w w' from fun w => by rw [hda]; exact addr_any w 3 ad v p.last HV.out HU.out)
  have HDA := Lib.hid (show da = addrOf (E P) p.last by rw [hda, HX.out])
  clear hda
  go_upto_region 7 with fail
  obtain ⟨w4, hw4⟩ : ∃ w4, w4 = w3.alloc (.cells #[.int .i64 3, .int .i64 ad, .int .u32 v] 51) := ⟨_, rfl⟩
  rw [show w3.alloc (.cells #[.int .i64 3, .int .i64 ad, .int .u32 v] 51) = w4 from hw4.symm]
  have hb4 : Below w3.heap.size w3 w4 := by rw [hw4]; exact below_one
  have HXX : Hid (w4.heap[w3.heap.size]? = some (.cells #[.int .i64 3, .int .i64 ad, .int .u32 v] 51 (0, 0))) := Lib.hid (by rw [hw4]; exact heap_alloc_new w3 _)
  have HT := Lib.hid (HT.out.below hb4)
  have hxa : a < w3.heap.size := by have := hb4.size; have := lt_of_heap HTO.out.va; omega
  obtain ⟨xb, hxb⟩ : ∃ xb, xb = w3.heap.size := ⟨_, rfl⟩
  rw [← hxb] at HXX hxa ⊢
  clear hw4 hb4 hxb c0 c1 c2 c3 i0 i1 i2 hPl1
  have i0 := cell_at HXX.out 0
  have i1 := cell_at HXX.out 1
  have i2 := cell_at HXX.out 2
  have c2 : w4.cell? ⟨a, 2, none⟩ = some (.int .u32 p.last) := cell_at HT.out.va 2
  obtain ⟨hd0, hd1⟩ : 0 ≤ da ∧ da < kk := by
    have h := HIN.out
    rw [← HPV.out, ← HDA.out, HR.out.len] at h
    by_cases h1 : 0 ≤ da ∧ da < kk
    · exact h1
    · rw [okAt_no (by omega)] at h; cases h
  obtain ⟨n, rfl⟩ := Int.eq_ofNat_of_zero_le hd0
  have hdn : n < kk := by omega
  have hdi : (n : Int) < (kk : Int) := by omega
  clear hd0 hd1
  go_upto_region 12 with (go_at_call 22; refine (HAD.out _).mono ?_; rintro e w5 ⟨rfl, hb5⟩; have HT := Lib.hid (HT.out.below hb5); have HX5 := Lib.hid ((hb5.block _ (lt_of_heap HXX.out)).trans HXX.out); clear hb5 c2 i0 i1 i2 HXX)
  have c1 : w5.cell? ⟨a, 1, none⟩ = some (.int .i64 P) := cell_at HT.out.va 1
  have f1 := free_at HT.out.va 1
  have hPb : (P : Int) ≤ 100 := by have := HL60.out; omega
  go_upto_region 13 with fail
  have HT := Lib.hid (HT.out.set (p' := { p with at_ := P + 1 }) 1 (.int .i64 ((P + 1 : Nat) : Int)) rfl)
  obtain ⟨w6, hw6⟩ : ∃ w6, w6 = w5.setCell ⟨a, 1, none⟩ (.int .i64 ((P + 1 : Nat) : Int)) := ⟨_, rfl⟩
  rw [← hw6] at HT
  rw [show w5.setCell ⟨a, 1, none⟩ (.int .i64 ((P : Int) + 1)) = w6 from hw6.symm]
  have HX6 := Lib.hid (show w6.heap[xb]? = some (.cells #[.int .i64 3, .int .i64 ad, .int .u32 v] 51 (0, 0)) by rw [hw6, Below.heap_setCell _ _ _ _ (by simp only; omega)]; exact HX5.out)
  clear hw6 c1 f1 HX5
  have c5 : w6.cell? ⟨a, 5, none⟩ = some (.int .i64 p.made) := cell_at HT.out.va 5
  have f5 := free_at HT.out.va 5
  go_upto_region 14 with fail
  have HT := Lib.hid (HT.out.set (p' := { p with at_ := P + 1, made := p.made + 1 }) 5 (.int .i64 ((p.made + 1 : Nat) : Int)) rfl)
  obtain ⟨w7, hw7⟩ : ∃ w7, w7 = w6.setCell ⟨a, 5, none⟩ (.int .i64 ((p.made + 1 : Nat) : Int)) := ⟨_, rfl⟩
  rw [← hw7] at HT
  rw [show w6.setCell ⟨a, 5, none⟩ (.int .i64 ((p.made : Int) + 1)) = w7 from hw7.symm]
  have HX7 := Lib.hid (show w7.heap[xb]? = some (.cells #[.int .i64 3, .int .i64 ad, .int .u32 v] 51 (0, 0)) by rw [hw7, Below.heap_setCell _ _ _ _ (by simp only; omega)]; exact HX6.out)
  clear hw7 c5 f5 HX6
  have i0 := cell_at HX7.out 0
  have i1 := cell_at HX7.out 1
  have i2 := cell_at HX7.out 2
  have hgr := (HR.out.old HT.out.low).row
  have hgl := lt_of_heap hgr
  have hnew : (w7.alloc (.cells (Array.replicate kk (Value.int .u32 0)) 36)).heap[w7.heap.size]? = some (.cells (List.replicate kk (Value.int .u32 0)).toArray 36 (0, 0)) := by
    simpa using heap_alloc_new w7 (.cells (Array.replicate kk (Value.int .u32 0)) 36)
  have HNW := Lib.hid hnew
  have hrow : ∀ (j : Nat) (v : Value), (cs.map (Value.int .u32))[j]? = some v → (w7.alloc (.cells (Array.replicate kk (Value.int .u32 0)) 36)).cell? ((⟨gb, 0, none⟩ : Addr).add j) = some v := by
    intro j v hj
    rw [Addr.add_lit, Nat.zero_add, World.cell?_of_block (w := w7) (Below.heap_alloc w7 _ gb hgl), cell_at hgr]
    simpa using hj
  have HRR := Lib.hid hrow
  have hcl := HR.out.len
  have H1 := Lib.hid (show (cs.map (Value.int .u32)).length = Nat.min kk kk by simp [hcl])
  have H3 := Lib.hid (show 0 + (cs.map (Value.int .u32)).length ≤ (List.replicate kk (Value.int .u32 0)).length by simp [hcl])
  have H4 := Lib.hid (show ∀ v ∈ cs.map (Value.int .u32), v.oneCell' = true by simp [Value.oneCell'])
  have HCL := Lib.hid hcl
  have hmk := HMK.out
  clear hnew hrow hgr hcl
  go_upto_region 22 with (with_reducible refine wpList_copy_splice rfl (.tmp 65) (.tmp 66) 29 29 rfl 36 Try.underlying29 size_u32 _ _ _ _ _ _ rfl rfl w7.heap.size 0 _ 36 HNW.out (cs.map (Value.int .u32)) H1.out (fun _ => ⟨rfl, _, rfl, HRR.out⟩) H3.out H4.out w7.heap.size w7 ((Below.refl _ _).alloc (Nat.le_refl _) _) (Nat.le_refl _) ?_; intro w8 hg8 hb8; have HG8 := Lib.hid hg8.out; have HB8 := Lib.hid hb8; clear hg8 hb8)
  have HT7 := HT
  have HT := Lib.hid (HT.out.below HB8.out)
  have hgn : w8.heap[w7.heap.size]? = some (.cells (cs.map (Value.int .u32)).toArray 36 (0, 0)) := by
    have h := HG8.out
    have hcl := HCL.out
    simpa [splice, hcl] using h
  have hX8 := (HB8.out.block xb (lt_of_heap HX7.out)).trans HX7.out
  have hag : a < w7.heap.size ∧ b < w7.heap.size ∧ xb < w7.heap.size := ⟨lt_of_heap HT7.out.va, lt_of_heap HT7.out.vb, lt_of_heap HX7.out⟩
  obtain ⟨q, hq⟩ : ∃ q, q = w7.heap.size := ⟨_, rfl⟩
  rw [← hq] at hgn hag ⊢
  have HQW := Lib.hid (show w.heap.size ≤ q by have := HAB.out; omega)
  have HGN := Lib.hid hgn
  have HX8 := Lib.hid hX8
  obtain ⟨haq, hbq, hxq⟩ := hag
  clear hgn hX8 hq HNW HRR HG8 HB8 hmk i0 i1 i2 HX7
  have i0 := cell_at HX8.out 0
  have i2 := cell_at HX8.out 2
  have g0 : w8.cell? ⟨q, n, none⟩ = some (.int .u32 (cs.getD n 0)) := cell_u32 HGN.out (by have := HCL.out; rw [List.getD_eq_getElem?_getD, List.getElem?_eq_getElem (by omega)]; rfl)
  have fg := free_at HGN.out n
  go_upto_region 23 with fail
  have HGN := Lib.hid (row_set HGN.out n v)
  have HT := Lib.hid (HT.out.other (S := fun k => k = q) (Mod.setCell (S := fun k => k = q) (Mod.refl _ _) (.inr rfl) _) (fun k hk e => by have := HQW.out; have : k = q := e; omega) (fun e => by have : a = q := e; omega) (fun e => by have : b = q := e; omega) (w' := w8.setCell ⟨q, n, none⟩ (.int .u32 v)))
  have HX9 := Lib.hid (show (w8.setCell ⟨q, n, none⟩ (.int .u32 v)).heap[xb]? = some (.cells #[.int .i64 3, .int .i64 ad, .int .u32 v] 51 (0, 0)) by rw [Below.heap_setCell _ _ _ _ (by simp only; omega)]; exact HX8.out)
  obtain ⟨w9, hw9⟩ : ∃ w9, w9 = w8.setCell ⟨q, n, none⟩ (.int .u32 v) := ⟨_, rfl⟩
  rw [← hw9] at HGN HT HX9 ⊢
  clear hw9 i0 i2 g0 fg HX8
  have i0 := cell_at HX9.out 0
  have HVV := Lib.hid (show (cs.set n v).set n (IntKind.u32.wrap (p.last + v)) = behind cs (E P) p.last ∧ U (IntKind.u32.wrap (p.last + v)) ∧ thenOf cs (E P) p.last = p.last by
    refine ⟨?_, u_wrap _, ?_⟩
    · rw [behind, ← HDA.out, HX.out]; simp [Ins.val]
    · rw [thenOf, HX.out]; simp [Ins.after])
  have i2 := cell_at HX9.out 2
  have c2 : w9.cell? ⟨a, 2, none⟩ = some (.int .u32 p.last) := cell_at HT.out.va 2
  have g0 : w9.cell? ⟨q, n, none⟩ = some (.int .u32 v) := cell_u32 HGN.out (by have := HCL.out; rw [List.getElem?_set_self (by omega)])
  have fg := free_at HGN.out n
  go_upto_region 26 with fail
  have HGN := Lib.hid (row_set HGN.out n (IntKind.u32.wrap (p.last + v)))
  have HT := Lib.hid (HT.out.other (S := fun k => k = q) (Mod.setCell (S := fun k => k = q) (Mod.refl _ _) (.inr rfl) _) (fun k hk e => by have := HQW.out; have : k = q := e; omega) (fun e => by have : a = q := e; omega) (fun e => by have : b = q := e; omega) (w' := w9.setCell ⟨q, n, none⟩ (.int .u32 (IntKind.u32.wrap (p.last + v)))))
  obtain ⟨w10, hw10⟩ : ∃ w10, w10 = w9.setCell ⟨q, n, none⟩ (.int .u32 (IntKind.u32.wrap (p.last + v))) := ⟨_, rfl⟩
  rw [← hw10] at HGN HT
  rw [show w9.setCell ⟨q, n, none⟩ (.int .u32 ((p.last + v) % 4294967296)) = w10 by rw [hw10, wrap_u32]]
  clear hw10 i0 i2 c2 g0 fg
  go_wp2_with (first
    | (refine wpList_load_row rfl 38 (.tmp 2) rfl a rfl 38 (progC { p with at_ := P + 1, made := p.made + 1 }) (0, 0) _ HT.out.va Try.underlying38 rfl (progC_info _) ?_)
    | fail)
  refine (on_any { p with at_ := P + 1, made := p.made + 1 } (HI.out.below HT.out.low) HU.out HL.out (by simp only; omega)).mono ?_; rintro e w11 ⟨rfl, hb9⟩
  have HT := Lib.hid (HT.out.below hb9)
  have HGN := Lib.hid ((hb9.block _ (lt_of_heap HGN.out)).trans HGN.out)
  clear hb9
  obtain ⟨pe, hpe⟩ : ∃ pe, pe = ({ p with at_ := P + 1, made := p.made + 1 } : PS).on E := ⟨_, rfl⟩
  rw [← hpe]
  have HPE := Lib.hid hpe
  clear hpe
  go_wp2_with (first
    | (refine wpList_store_row rfl 38 (.tmp 4) (.tmp 86) rfl b (progC pe) rfl rfl 38 progZ HT.out.vb (progC_info _) rfl (progC_one _) ?_)
    | fail)
  rw [← HPV.out, HVV.out.2.2, ← HPE.out]
  refine bodyPost_ret (v := .tuple #[.agg (progC pe), .slice (some ⟨q, 0, none⟩) kk kk]) (results_cell_tmp rfl _ _ b 38 _ (0, 0) _ _ rfl rfl (setRow_heap _ _ _ _ _ _ HT.out.vb) Try.underlying38 rfl (progC_info _)) rfl ⟨q, rfl, ?_, .inr HQW.out, ?_⟩
  · refine ⟨?_, by rw [← HVV.out.1]; simpa using HCL.out, fun x hx => ?_⟩
    · rw [← HVV.out.1]; exact (setRow_other _ _ _ _ (by omega)).trans HGN.out
    · rw [← HVV.out.1] at hx
      rcases List.mem_or_eq_of_mem_set hx with hx | hx
      · first
          | exact HR.out.u x hx
          | (rcases List.mem_or_eq_of_mem_set hx with hx | hx
             · exact HR.out.u x hx
             · rw [hx]; exact HV.out)
      · rw [hx]; exact HVV.out.2.1
  · exact below_setRow HT.out.low (by have := HAB.out; omega) _

end Go.Proofs.Ytdmcnlkmfohmdaa
