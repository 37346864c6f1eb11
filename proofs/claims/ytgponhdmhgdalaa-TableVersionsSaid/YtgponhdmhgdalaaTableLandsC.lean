/-
  What the program's Row of layer 11 keeps. Over the program's own text.
-/
import Derived.Test.YtgponhdmhgdalaaTableLandsA
namespace Go.Proofs.Ytgponhdmhgdalaa
open Go.RowKit

def rowR11 (b d : Int) : Pr R4 := .load (b + 4 * d) fun p => .load (b + 4 * d + 1) fun i => .load (b + 4 * d + 2) fun l => .load (b + 4 * d + 3) fun t => .ret ⟨p, i, l, t⟩
theorem rowD11 (cs : List Int) (b : Int) (d : Nat) (hb : 0 ≤ b) (hl : b + 4 * (d : Int) + 3 < cs.length) : ∃ m, m ≤ 8 ∧ Does (rowR11 b (d : Int)) cs m ⟨cellZ cs (b + 4 * (d : Int)), cellZ cs (b + 4 * (d : Int) + 1), cellZ cs (b + 4 * (d : Int) + 2), cellZ cs (b + 4 * (d : Int) + 3)⟩ cs :=
  ⟨0 + 1 + 1 + 1 + 1, by omega, .load (by omega) (by omega) (.load (by omega) (by omega) (.load (by omega) (by omega) (.load (by omega) (by omega) (.ret _ _))))⟩
/-- A run, the answer's block. -/
structure QW (W : World) (rb mb cb : Nat) (go0 : Option Nat) (st : St) (go : Option Nat) (w : World) : Prop where
  run : RunW W rb mb cb go0 st go w
  r : w.heap[W.heap.size]? = some (.cells (rowC ⟨0, 0, 0, 0⟩) 52 (0, 0))
theorem QW.access {W w w' : World} {rb mb cb : Nat} {go0 go go' : Option Nat} {st st' : St} (h : QW W rb mb cb go0 st go w) (hr : RM w' rb mb cb go' true st') (ha : Adv rb mb cb w go w' go') : QW W rb mb cb go0 st' go' w' :=
  ⟨h.run.access hr ha, h.run.stays ha h.r (Nat.le_refl _) (by decide)⟩
section
variable {w : World} {rb mb cb : Nat} {go : Option Nat} {st : St} {Bd : Nat}
set_option maxRecDepth 100000 in
set_option maxHeartbeats 2000000 in
theorem row_any (b d : Int) (hrm : RM w rb mb cb go true st) (hf : st.Fine Bd) (hB : Bd < 1000000000) (hb0 : 0 ≤ b) (hb1 : b ≤ 60000) (hd0 : 0 ≤ d) (hd1 : d ≤ 60000) :
    Calls Try.prog 20 #[.pointer (some ⟨rb, 0, none⟩), .int .i64 b, .int .i64 d] w fun e w' => ∃ x go', e = .returned (.agg (rowC x)) ∧ RM w' rb mb cb go' true ((rowR11 b d).on st).2 ∧ Adv rb mb cb w go w' go' ∧ ∀ y, ((rowR11 b d).on st).1 = some y → y = x := by
  obtain ⟨w1, hw1⟩ : ∃ w1, w1 = w.alloc (.cells #[.int .u32 0, .int .u32 0, .int .u32 0, .int .u32 0] 52) := ⟨_, rfl⟩
  have HR := Lib.hid (show QW w rb mb cb go st go w1 from ⟨by rw [hw1]; exact (RunW.start hrm).below below_one, by rw [hw1]; exact heap_alloc_new w _⟩)
  have HF := Lib.hid hf
  obtain ⟨p, hp⟩ : ∃ p, p = rowR11 b d := ⟨_, rfl⟩
  have hq : Rest p (rowR11 b d) st st := by rw [hp]; exact Rest.start _ _
  unfold rowR11 at hq
  have h00 := cell_any b d 0 hb0 hb1 hd0 hd1 (by decide) (by decide)
  have h01 := cell_any b d 1 hb0 hb1 hd0 hd1 (by decide) (by decide)
  have h02 := cell_any b d 2 hb0 hb1 hd0 hd1 (by decide) (by decide)
  have h03 := cell_any b d 3 hb0 hb1 hd0 hd1 (by decide) (by decide)
  rw [← hp]
  obtain ⟨a, ha⟩ : ∃ a, a = b + 4 * d := ⟨_, rfl⟩
  rw [← ha] at hq
  simp only [Int.add_zero, ← ha] at h00 h01 h02 h03
  have H0 := Lib.hid h00
  have H1 := Lib.hid h01
  have H2 := Lib.hid h02
  have H3 := Lib.hid h03
  have HQ := Lib.hid hq
  have HW := Lib.hid hw1
  clear hrm hf ha hp hq hw1 h00 h01 h02 h03
  go_enter Try.func20, Try.ntmps20
  go_wp2_with fail
  refine (H0.out _).mono ?_; rintro e wz ⟨rfl, rfl⟩
  go_wp2_with fail
  rw [← HW.out]
  clear HW
  refine (run_load HR.out.run.rm hB HF.out.ok a).mono ?_; rintro e v1 ⟨rfl, go1, hr1, ha1⟩
  have HR := Lib.hid (HR.out.access hr1 ha1)
  have HQ := Lib.hid (HQ.out.load HF.out)
  have HF := Lib.hid (HF.out.load a)
  clear hr1 ha1 H0
  obtain ⟨st1, hst1⟩ : ∃ s, s = (st.load a).2 := ⟨_, rfl⟩
  obtain ⟨y1, hy1⟩ : ∃ y, y = (st.load a).1 := ⟨_, rfl⟩
  rw [← hst1] at HR HF HQ
  rw [← hy1] at HQ ⊢
  clear hst1 hy1
  go_wp2_with fail
  refine (H1.out _).mono ?_; rintro e wz ⟨rfl, rfl⟩
  go_wp2_with fail
  refine (run_load HR.out.run.rm hB HF.out.ok (a + 1)).mono ?_; rintro e v2 ⟨rfl, go2, hr2, ha2⟩
  have HR := Lib.hid (HR.out.access hr2 ha2)
  have HQ := Lib.hid (HQ.out.load HF.out)
  have HF := Lib.hid (HF.out.load (a + 1))
  clear hr2 ha2 H1
  obtain ⟨st2, hst2⟩ : ∃ s, s = (st1.load (a + 1)).2 := ⟨_, rfl⟩
  obtain ⟨y2, hy2⟩ : ∃ y, y = (st1.load (a + 1)).1 := ⟨_, rfl⟩
  rw [← hst2] at HR HF HQ
  rw [← hy2] at HQ ⊢
  clear hst2 hy2
  go_wp2_with fail
  refine (H2.out _).mono ?_; rintro e wz ⟨rfl, rfl⟩
  go_wp2_with fail
  refine (run_load HR.out.run.rm hB HF.out.ok (a + 2)).mono ?_; rintro e v3 ⟨rfl, go3, hr3, ha3⟩
  have HR := Lib.hid (HR.out.access hr3 ha3)
  have HQ := Lib.hid (HQ.out.load HF.out)
  have HF := Lib.hid (HF.out.load (a + 2))
  clear hr3 ha3 H2
  obtain ⟨st3, hst3⟩ : ∃ s, s = (st2.load (a + 2)).2 := ⟨_, rfl⟩
  obtain ⟨y3, hy3⟩ : ∃ y, y = (st2.load (a + 2)).1 := ⟨_, rfl⟩
  rw [← hst3] at HR HF HQ
  rw [← hy3] at HQ ⊢
  clear hst3 hy3
  go_wp2_with fail
  refine (H3.out _).mono ?_; rintro e wz ⟨rfl, rfl⟩
  go_wp2_with fail
  refine (run_load HR.out.run.rm hB HF.out.ok (a + 3)).mono ?_; rintro e v4 ⟨rfl, go4, hr4, ha4⟩
  have HR := Lib.hid (HR.out.access hr4 ha4)
  have HQ := Lib.hid (HQ.out.load HF.out)
  have HF := Lib.hid (HF.out.load (a + 3))
  clear hr4 ha4 H3
  obtain ⟨st4, hst4⟩ : ∃ s, s = (st3.load (a + 3)).2 := ⟨_, rfl⟩
  obtain ⟨y4, hy4⟩ : ∃ y, y = (st3.load (a + 3)).1 := ⟨_, rfl⟩
  rw [← hst4] at HR HF HQ
  rw [← hy4] at HQ ⊢
  clear hst4 hy4
  go_wp2_with (first | (refine wpList_store_row rfl 52 (.tmp 6) (.tmp 27) rfl w.heap.size (rowC ⟨y1, y2, y3, y4⟩) rfl rfl 52 (rowC ⟨0, 0, 0, 0⟩) HR.out.r (rowC_info _) rfl (rowC_one _) ?_) | fail)
  have hq := HQ.out.ret
  unfold Ended at hq
  have hm : Mod (fun k => k = w.heap.size) v4 (v4.setRow w.heap.size (rowC ⟨y1, y2, y3, y4⟩)) := Mod.setRow (S := fun k => k = w.heap.size) (Mod.refl _ _) (.inr rfl) _
  have hru := HR.out.run.turn (HR.out.run.far HR.out.r (Nat.le_refl _) (by decide)) (Nat.le_refl _) hm
  have hrm := hru.rm
  rw [← hq.1] at hrm
  refine bodyPost_ret (v := .agg (rowC ⟨y1, y2, y3, y4⟩)) (results_cell_row rfl _ _ w.heap.size _ _ (0, 0) _ rfl (setRow_heap _ _ _ _ _ _ HR.out.r) Try.underlying52 rfl (rowC_info _)) rfl ⟨_, go4, rfl, hrm, hru.adv, hq.2⟩
end
end Go.Proofs.Ytgponhdmhgdalaa
