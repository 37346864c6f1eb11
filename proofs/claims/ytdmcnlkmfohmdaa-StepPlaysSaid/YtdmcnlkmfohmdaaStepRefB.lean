/-
  The reference's on. Over the program's own text.
-/
import Derived.Test.YtdmcnlkmfohmdaaStepRef
namespace Go.Proofs.Ytdmcnlkmfohmdaa
open Go.RowKit

def progZ : Array Value := #[.slice none 0 0, .int .i64 0, .int .u32 0, .bool false, .int .i64 0, .int .i64 0]
/-- Where on's loop stands. -/
def OnRel (w : World) (a b : Nat) (p : PS) (E : Nat → Ins) (wr : World) : Prop :=
  ∃ i : Nat, i ≤ p.len ∧ p.at_ ≤ i ∧ nxt E (p.len - p.at_) p.at_ p.last = nxt E (p.len - i) i p.last ∧ pos E (p.len - p.at_) p.at_ p.last = pos E (p.len - i) i p.last ∧
    wr.heap[a]? = some (.cells (progC { p with at_ := i }) 38 (0, 0)) ∧ wr.heap[b]? = some (.cells progZ 38 (0, 0)) ∧ Below w.heap.size w wr

/-- What on makes of it. -/
def PS.on (p : PS) (E : Nat → Ins) : PS := { p with at_ := pos E (p.len - p.at_) p.at_ p.last, over := p.over || !nxt E (p.len - p.at_) p.at_ p.last }

/-- Where it stands, read out of memory. -/
def atOf (wr : World) (a : Nat) : Nat := match wr.cell? ⟨a, 1, none⟩ with
  | some (.int _ n) => n.toNat
  | _ => 0
theorem atOf_eq {wr : World} {a i : Nat} {p : PS} (h : wr.heap[a]? = some (.cells (progC { p with at_ := i }) 38 (0, 0))) : atOf wr a = i := by
  have : wr.cell? ⟨a, 1, none⟩ = some (.int .i64 i) := cell_at h 1
  unfold atOf
  rw [this]
  simp
theorem progC_set_at (p : PS) (i : Nat) : (progC p).setIfInBounds 1 (.int .i64 i) = progC { p with at_ := i } := rfl
theorem progC_set_over (p : PS) (b : Bool) : (progC p).setIfInBounds 3 (.bool b) = progC { p with over := b } := rfl

set_option maxHeartbeats 1000000 in
theorem on_any {w : World} {D : Nat → Prop} {E : Nat → Ins} (p : PS) (hI : InsAt w D p.ao p.len E) (hu : U p.last) (hl : p.len ≤ 100) (hat : p.at_ ≤ p.len) :
    Calls Try.prog 25 #[.agg (progC p)] w fun e w' => e = .returned (.agg (progC (p.on E))) ∧ Below w.heap.size w w' := by
  have HI := Lib.hid hI
  have HU := Lib.hid hu
  have HL := Lib.hid hl
  have hq : ∀ (i : Nat) (wr : World), Below w.heap.size w wr → Calls Try.prog 32 #[.agg (progC { p with at_ := i })] wr fun e w' => e = .returned (.int .i64 (quietOf E p.len i p.last)) ∧ Below wr.heap.size wr w' :=
    fun i wr hb => quiet_any { p with at_ := i } (hI.below hb) hu hl
  have HQ := Lib.hid hq
  obtain ⟨a, ha⟩ : ∃ a, a = w.heap.size := ⟨_, rfl⟩
  have HAt := Lib.hid hat
  clear hI hu hl hq hat
  go_enter Try.func25, Try.ntmps25
  go_wp2_with fail
  have HR : Hid (OnRel w w.heap.size (w.heap.size + 1) p E ((w.alloc (.cells (progC p) 38)).alloc (.cells progZ 38))) := Lib.hid ⟨p.at_, HAt.out, Nat.le_refl _, rfl, rfl, heap2_0 w _ _, heap2_1 w _ _, below_al2⟩
  obtain ⟨wx, hwx⟩ : ∃ wx, wx = (w.alloc (.cells (progC p) 38)).alloc (.cells progZ 38) := ⟨_, rfl⟩
  rw [← hwx] at HR
  rw [show (w.alloc (.cells (progC p) 38)).alloc (.cells #[.slice none 0 0, .int .i64 0, .int .u32 0, .bool false, .int .i64 0, .int .i64 0] 38) = wx from hwx.symm]
  clear hwx
  obtain ⟨b, hb⟩ : ∃ b, b = w.heap.size + 1 := ⟨_, rfl⟩
  rw [← hb, ← ha] at HR ⊢
  have hab : w.heap.size ≤ a ∧ a < b := by omega
  obtain ⟨ha0, hab⟩ := hab
  clear ha hb
  go_loopw [] (fun wr => OnRel w a b p E wr) (fun wr => p.len - atOf wr a)
  case atStart => exact HR.out
  case round =>
    clear HR
    obtain ⟨i, hi, hpi, hn, hp, hA, hB, hlow⟩ := hrel
    have HN := Lib.hid (And.intro hn hp)
    have HA := Lib.hid hA
    have HB := Lib.hid hB
    have HW := Lib.hid hlow
    have hm1 := cell_at hA 1
    have fm1 := free_at hA 1
    have HMS := Lib.hid (atOf_eq hA)
    clear hn hp hA hB hlow
    simp only [progC] at hm1
    have hm1 : wr.cell? ⟨a, 1, none⟩ = some (.int .i64 i) := hm1
    obtain ⟨q, hq⟩ : ∃ q, q = quietOf E p.len i p.last := ⟨_, rfl⟩
    have HQ1 := Lib.hid (show ∀ wr : World, Below w.heap.size w wr → Calls Try.prog 32 #[.agg (progC { p with at_ := i })] wr fun e w' => e = .returned (.int .i64 q) ∧ Below wr.heap.size wr w' from fun wr hb => by rw [hq]; exact HQ.out i wr hb)
    by_cases h1 : q = 1
    · have e1 : (q == 1) = true := by simpa using h1
      have HO := Lib.hid (quiet_one (hq.symm.trans h1))
      obtain ⟨hlt, _⟩ := HO.out
      have hl100 := HL.out
      clear h1 hq
      go_wp2_with (refine wpList_load_row rfl 38 (.tmp 1) rfl a rfl 38 (progC { p with at_ := i }) (0, 0) _ HA.out Try.underlying38 rfl (progC_info _) ?_)
      refine (HQ1.out _ HW.out).mono ?_; rintro e w2 ⟨rfl, hb2⟩
      have HA2 := Lib.hid ((hb2.block a (lt_of_heap HA.out)).trans HA.out)
      have HB2 := Lib.hid ((hb2.block b (lt_of_heap HB.out)).trans HB.out)
      have hm1 : w2.cell? ⟨a, 1, none⟩ = some (.int .i64 i) := cell_at HA2.out 1
      have fm1 := free_at HA2.out 1
      have HW := Lib.hid (HW.out.trans (hb2.mono HW.out.size))
      clear hb2
      go_wp2_with fail
      go_roundw
      case rel =>
        refine ⟨i + 1, by omega, by omega, HN.out.1.trans HO.out.2.1, HN.out.2.trans HO.out.2.2, ?_, ?_, ?_⟩
        · rw [heap_setCell_same _ _ _ _ _ _ HA2.out]
          exact congrArg (fun c => some (Obj.cells c _ _)) (progC_set_at _ (i + 1))
        · rw [Below.heap_setCell _ _ _ _ (by simp only; omega)]; exact HB2.out
        · exact HW.out.setCell (p := ⟨a, 1, none⟩) ha0 _
      case measure =>
        rw [HMS.out, atOf_eq (i := i + 1) (p := p) (by rw [heap_setCell_same _ _ _ _ _ _ HA2.out]; exact congrArg (fun c => some (Obj.cells c _ _)) (progC_set_at _ (i + 1)))]
        omega
    · have e1 : (q == 1) = false := by simpa using h1
      have HP := Lib.hid (quiet_else hi (fun h => h1 (hq.trans h)))
      have HQV := Lib.hid (show q = if nxt E (p.len - i) i p.last = true then 0 else 2 by rw [hq, ← quiet_pos (len := p.len) (p.len - i) i p.last (by omega), HP.out])
      clear h1 hq
      by_cases hnx : nxt E (p.len - i) i p.last = true
      · have HX := Lib.hid hnx
        obtain rfl : q = 0 := by rw [HQV.out, if_pos hnx]
        clear hnx
        go_wp2_with (first
          | (refine wpList_load_row rfl 38 (.tmp 1) rfl a rfl 38 (progC { p with at_ := i }) (0, 0) _ HA.out Try.underlying38 rfl (progC_info _) ?_)
          | fail)
        refine (HQ1.out _ HW.out).mono ?_; rintro e w2 ⟨rfl, hb2⟩
        have HA := Lib.hid ((hb2.block a (lt_of_heap HA.out)).trans HA.out)
        have HB := Lib.hid ((hb2.block b (lt_of_heap HB.out)).trans HB.out)
        have HW := Lib.hid (HW.out.trans (hb2.mono HW.out.size))
        clear hb2 hm1 fm1 HMS
        go_wp2_with (first
          | (refine wpList_load_row rfl 38 (.tmp 1) rfl a rfl 38 (progC { p with at_ := i }) (0, 0) _ HA.out Try.underlying38 rfl (progC_info _) ?_)
          | fail)
        refine (HQ1.out _ HW.out).mono ?_; rintro e w3 ⟨rfl, hb2⟩
        have HA := Lib.hid ((hb2.block a (lt_of_heap HA.out)).trans HA.out)
        have HB := Lib.hid ((hb2.block b (lt_of_heap HB.out)).trans HB.out)
        have HW := Lib.hid (HW.out.trans (hb2.mono HW.out.size))
        clear hb2
        go_wp2_with (first
          | (refine wpList_load_row rfl 38 (.tmp 1) rfl a rfl 38 (progC { p with at_ := i }) (0, 0) _ HA.out Try.underlying38 rfl (progC_info _) ?_)
          | (refine wpList_store_row rfl 38 (.tmp 2) (.tmp 14) rfl b (progC { p with at_ := i }) rfl rfl 38 progZ HB.out (progC_info _) rfl (progC_one _) ?_)
          | fail)
        refine bodyPost_ret (v := .agg (progC { p with at_ := i })) (results_cell_row rfl _ _ b 38 _ (0, 0) _ rfl (setRow_heap _ _ _ _ _ _ HB.out) Try.underlying38 rfl (progC_info _)) rfl ⟨?_, ?_⟩
        · unfold PS.on
          rw [HN.out.1, HN.out.2, HP.out, HX.out]
          simp
        · exact below_setRow HW.out (by omega) _
      · have HX := Lib.hid (show nxt E (p.len - i) i p.last = false by simpa using hnx)
        obtain rfl : q = 2 := by rw [HQV.out, if_neg hnx]
        clear hnx
        go_wp2_with (first
          | (refine wpList_load_row rfl 38 (.tmp 1) rfl a rfl 38 (progC { p with at_ := i }) (0, 0) _ HA.out Try.underlying38 rfl (progC_info _) ?_)
          | fail)
        refine (HQ1.out _ HW.out).mono ?_; rintro e w2 ⟨rfl, hb2⟩
        have HA := Lib.hid ((hb2.block a (lt_of_heap HA.out)).trans HA.out)
        have HB := Lib.hid ((hb2.block b (lt_of_heap HB.out)).trans HB.out)
        have HW := Lib.hid (HW.out.trans (hb2.mono HW.out.size))
        clear hb2 hm1 fm1 HMS
        go_wp2_with (first
          | (refine wpList_load_row rfl 38 (.tmp 1) rfl a rfl 38 (progC { p with at_ := i }) (0, 0) _ HA.out Try.underlying38 rfl (progC_info _) ?_)
          | fail)
        refine (HQ1.out _ HW.out).mono ?_; rintro e w3 ⟨rfl, hb2⟩
        have HA := Lib.hid ((hb2.block a (lt_of_heap HA.out)).trans HA.out)
        have HB := Lib.hid ((hb2.block b (lt_of_heap HB.out)).trans HB.out)
        have HW := Lib.hid (HW.out.trans (hb2.mono HW.out.size))
        have hm3 : w3.cell? ⟨a, 3, none⟩ = some (.bool p.over) := cell_at HA.out 3
        have fm3 := free_at HA.out 3
        clear hb2
        go_upto_region 5 with fail
        obtain ⟨w4, hw4⟩ : ∃ w4, w4 = w3.setCell ⟨a, 3, none⟩ (.bool true) := ⟨_, rfl⟩
        rw [show w3.setCell ⟨a, 3, none⟩ (.bool true) = w4 from hw4.symm]
        have HA4 : Hid (w4.heap[a]? = some (.cells (progC { p with at_ := i, over := true }) 38 (0, 0))) := Lib.hid (by rw [hw4, heap_setCell_same _ _ _ _ _ _ HA.out]; rfl)
        have HB4 : Hid (w4.heap[b]? = some (.cells progZ 38 (0, 0))) := Lib.hid (by rw [hw4, Below.heap_setCell _ _ _ _ (by simp only; omega)]; exact HB.out)
        have HW4 := Lib.hid (show Below w.heap.size w w4 by rw [hw4]; exact HW.out.setCell (p := ⟨a, 3, none⟩) ha0 _)
        clear hw4 hm3 fm3 HA HB HW
        go_wp2_with (first
          | (refine wpList_load_row rfl 38 (.tmp 1) rfl a rfl 38 (progC { p with at_ := i, over := true }) (0, 0) _ HA4.out Try.underlying38 rfl (progC_info _) ?_)
          | (refine wpList_store_row rfl 38 (.tmp 2) (.tmp 14) rfl b (progC { p with at_ := i, over := true }) rfl rfl 38 progZ HB4.out (progC_info _) rfl (progC_one _) ?_)
          | fail)
        refine bodyPost_ret (v := .agg (progC { p with at_ := i, over := true })) (results_cell_row rfl _ _ b 38 _ (0, 0) _ rfl (setRow_heap _ _ _ _ _ _ HB4.out) Try.underlying38 rfl (progC_info _)) rfl ⟨?_, ?_⟩
        · unfold PS.on
          rw [HN.out.1, HN.out.2, HP.out, HX.out]
          simp
        · exact below_setRow HW4.out (by omega) _
end Go.Proofs.Ytdmcnlkmfohmdaa
