/-
  The laws' own example. Over the program's own text.
-/
import Derived.Test.YtiabmbkmahlhkaaPostPlan
import Derived.Test.YtiabmbkmahlhkaaPoolEq
import Derived.Test.YtiabmbkmahlhkaaSame32
namespace Go.Proofs.Ytiabmbkmahlhkaa
open Go.RowKit

theorem six_congr {U V : Nat → Int} (h : ∀ j, j < 6 → U j = V j) : six U = six V := by
  unfold six
  rw [h 0 (by omega), h 1 (by omega), h 2 (by omega), h 3 (by omega), h 4 (by omega), h 5 (by omega)]
def exS0 (j : Nat) : Int := [1, 1, 0, 0].getD j 0
theorem ok_ex : OkConf 1 64 exS0 0 0 := by
  refine ⟨⟨by omega, by omega, by omega, by omega, ?_, ?_, by omega, by omega, by omega, by omega⟩, ?_⟩
  · intro k hk
    rcases (show k = 0 ∨ k = 1 ∨ k = 2 ∨ k = 3 by omega) with rfl | rfl | rfl | rfl <;> decide
  · intro k hk
    rcases (show k = 0 ∨ k = 1 ∨ k = 2 ∨ k = 3 by omega) with rfl | rfl | rfl | rfl <;> decide
  · decide
def exB : Nat → Int := baseOf (szOf exS0 0 0)
def exS : Nat → Int := szOf exS0 0 0
theorem ex_laid : Laid exB exS 23 := laid_of ok_ex
theorem lay_ex (w : World) : Calls Try.prog 21 #[.agg #[.int .i64 1, .int .i64 64, .int .i64 1, .int .i64 1, .int .i64 0, .int .i64 0, .int .i64 0, .int .i64 0, .float .f64 0, .float .f64 0]] w fun e w' => e = .returned (.tuple #[.agg (planC exB exS 23 128 133), .int .i64 0]) ∧ Below w.heap.size w w' :=
  ref_lay_ok w 1 64 exS0 0 0 0 0 ok_ex

def exU : Nat → Nat → Int
  | 0 => fun _ => 0
  | 1 => more (fun _ => 0) 0 (slab 0)
  | 2 => more (fun _ => 0) 0 (slab 0)
  | 3 => more (fun _ => 0) 0 (slab 0)
  | _ => more (more (fun _ => 0) 0 (slab 0)) 1 (slab 1)
def exT (i : Nat) : Int := [0, 4, 5, 6, 8].getD i 0
def exCs : Nat → List Int
  | 0 => List.replicate 23 0
  | 1 => [0, 0, 0, 0, 5, 0, 0, 0, 0, 0, 0, 0, 0, 0, 0, 0, 0, 0, 0, 0, 0, 0, 0]
  | 2 => [0, 0, 0, 0, 5, 6, 0, 0, 0, 0, 0, 0, 0, 0, 0, 0, 0, 0, 0, 0, 0, 0, 0]
  | 3 => [0, 0, 0, 0, 5, 6, 7, 0, 0, 0, 0, 0, 0, 0, 0, 0, 0, 0, 0, 0, 0, 0, 0]
  | _ => [0, 0, 0, 0, 5, 6, 7, 6, 8, 0, 0, 0, 0, 0, 0, 0, 0, 0, 0, 0, 0, 0, 0]
theorem exCs_u : ∀ i, i ≤ 4 → ∀ y ∈ exCs i, U y := by
  intro i hi y hy
  rcases (show i = 0 ∨ i = 1 ∨ i = 2 ∨ i = 3 ∨ i = 4 by omega) with rfl | rfl | rfl | rfl | rfl <;> simp [exCs] at hy <;> unfold U <;> omega
theorem exU_in : ∀ i, i ≤ 4 → ∀ k, k < 6 → 0 ≤ exU i k ∧ exU i k ≤ exS k := by
  intro i hi k hk
  rcases (show i = 0 ∨ i = 1 ∨ i = 2 ∨ i = 3 ∨ i = 4 by omega) with rfl | rfl | rfl | rfl | rfl <;> rcases below6 hk with rfl | rfl | rfl | rfl | rfl | rfl <;> decide
theorem ex_put : ∀ i, i < 4 → ∃ n, n ≤ 2 ∧ Does (putP exB exS (exU i) (exT i) ((5 + i : Nat) : Int)) (exCs i) n (exT (i + 1), exU (i + 1), 0) (exCs (i + 1)) := by
  intro i hi
  rcases (show i = 0 ∨ i = 1 ∨ i = 2 ∨ i = 3 by omega) with rfl | rfl | rfl | rfl
  · refine ⟨1, by omega, ?_⟩
    have e : putP exB exS (exU 0) (exT 0) ((5 + 0 : Nat) : Int) = .store 4 5 (.ret (exT 1, exU 1, 0)) := by kernel_rfl
    rw [e]
    exact .store (by decide) (by decide) (.ret _ _)
  · refine ⟨1, by omega, ?_⟩
    have e : putP exB exS (exU 1) (exT 1) ((5 + 1 : Nat) : Int) = .store 5 6 (.ret (exT 2, exU 2, 0)) := by kernel_rfl
    rw [e]
    exact .store (by decide) (by decide) (.ret _ _)
  · refine ⟨1, by omega, ?_⟩
    have e : putP exB exS (exU 2) (exT 2) ((5 + 2 : Nat) : Int) = .store 6 7 (.ret (exT 3, exU 3, 0)) := by kernel_rfl
    rw [e]
    exact .store (by decide) (by decide) (.ret _ _)
  · refine ⟨2, by omega, ?_⟩
    have e : putP exB exS (exU 3) (exT 3) ((5 + 3 : Nat) : Int) = .store 7 6 (.store 8 8 (.ret (exT 4, exU 4, 0))) := by kernel_rfl
    rw [e]
    exact .store (by decide) (by decide) (.store (by decide) (by decide) (.ret _ _))
theorem ex_chain : Chain exB exS (exCs 4) (fun _ => True) 8 [8, 7, 6, 5] := by
  refine .edge (b := 6) (by decide +kernel) trivial trivial (by decide) (by decide) (by decide) ?_
  refine .deep (by decide +kernel) trivial (by decide) ?_
  refine .deep (by decide +kernel) trivial (by decide) ?_
  exact .edge (b := 0) (by decide +kernel) trivial trivial (by decide) (by decide) (by decide) .nil
def exN (j : Nat) : Int := [0, 16, 0, 0, 0, 0].getD j 0
theorem ex_need : six (needZ exB exS 6 1) = six exN := six_congr (by
  intro j hj
  rcases below6 hj with rfl | rfl | rfl | rfl | rfl | rfl <;> decide +kernel)

/-- Where all lies behind i rounds. -/
def FixAt (w : World) (p q mb cb i : Nat) (wr : World) : Prop :=
  wr.heap[p]? = some (.cells (planC exB exS 23 128 133) 29 (0, 0)) ∧ wr.heap[q]? = some (.cells (six (exU i)) 27 (0, 0)) ∧ (∃ l s, MemAt wr mb cb (exCs i) l s ∧ 0 ≤ l ∧ 0 ≤ s ∧ l + s ≤ 2 * i) ∧ Below w.heap.size w wr

set_option maxRecDepth 100000 in
set_option maxHeartbeats 2000000 in
theorem fixed_any {walkP : (Nat → Int) → (Nat → Int) → Int → Int → Pr (List Nat)} (K : KeptPost walkP) (w : World) : Calls Try.prog 7 #[] w fun e w' => e = .returned (.bool true) ∧ Below w.heap.size w w' := by
  have HK := Lib.hid K
  have heq1 : ∀ w, (Op.equalIn 10000 27 (.agg (six (exU 4))) (.agg #[.int .i64 4, .int .i64 16, .int .i64 0, .int .i64 0, .int .i64 0, .int .i64 0])).run Try.prog w = .ok true w := eq_six (exU 4) 9998
  have heq2 : ∀ w, (Op.equalIn 10000 27 (.agg (six exN)) (.agg #[.int .i64 0, .int .i64 16, .int .i64 0, .int .i64 0, .int .i64 0, .int .i64 0])).run Try.prog w = .ok true w := eq_six exN 9998
  have HE := Lib.hid (And.intro heq1 heq2)
  clear K heq1 heq2
  go_enter Try.func7, Try.ntmps7
  go_wp2_with fail
  refine (lay_ex _).mono ?_; rintro e w1 ⟨rfl, hb1⟩
  have hz1 := hb1.size
  go_upto_region 2 with (first
    | (refine wpList_store_row rfl 29 (.tmp 1) (.tmp 15) rfl w1.heap.size (planC exB exS 23 128 133) rfl rfl 29 (planC (fun _ => 0) (fun _ => 0) 0 0 0) (heap_alloc_new w1 _) (planC_info _ _ _ _ _) rfl (planC_one _ _ _ _ _) ?_)
    | fail)
  rw [World.setRow_alloc_new]
  obtain ⟨w2, hw2⟩ : ∃ w2, w2 = w1.alloc (.cells (planC exB exS 23 128 133) 29) := ⟨_, rfl⟩
  rw [← hw2]
  have g2 : w2.heap[w1.heap.size]? = some (.cells (planC exB exS 23 128 133) 29 (0, 0)) := by rw [hw2]; exact heap_alloc_new _ _
  have hB : Below w.heap.size w w2 := by rw [hw2]; exact hb1.alloc hb1.size _
  obtain ⟨p, hp⟩ : ∃ p, p = w1.heap.size := ⟨_, rfl⟩
  rw [← hp] at g2 hz1 ⊢
  have c12 : w2.cell? ⟨p, 12, none⟩ = some (.int .i64 23) := cell_at g2 12
  have H2 := Lib.hid g2
  have HB := Lib.hid hB
  clear hw2 hp hb1 g2 hB
  go_wp2_with fail
  refine (new_ok w2 23 (by omega) (by omega)).mono ?_; rintro e w3 ⟨rfl, hm, hb⟩
  have h3 := (hb.block p (lt_of_heap H2.out)).trans H2.out
  have HB := Lib.hid (HB.out.trans (hb.mono HB.out.size))
  have hmz : w2.heap.size + 1 < w3.heap.size := lt_of_heap hm.rec_
  have hw0 : w.heap.size ≤ w2.heap.size := by have := lt_of_heap H2.out; omega
  obtain ⟨cb, hcb⟩ : ∃ cb, cb = w2.heap.size := ⟨_, rfl⟩
  rw [← hcb] at hm hmz hw0 ⊢
  have H3 := Lib.hid h3
  have HM := Lib.hid hm
  clear hb h3 hm hcb c12 H2
  go_upto_region 6 with fail
  have hz : (w3.alloc (.cells #[.int .i64 0, .int .i64 0, .int .i64 0, .int .i64 0, .int .i64 0, .int .i64 0] 27)) = w3.alloc (.cells (six (exU 0)) 27) := rfl
  rw [hz]
  obtain ⟨q, hq⟩ : ∃ q, q = w3.heap.size := ⟨_, rfl⟩
  have hF : FixAt w p q (cb + 1) cb 0 (w3.alloc (.cells (six (exU 0)) 27)) := ⟨heap_below H3.out, heap_top _ hq, ⟨0, 0, HM.out.below below_one, by omega, by omega, by omega⟩, HB.out.alloc HB.out.size _⟩
  rw [← hq]
  have hqz : cb + 1 < q := by omega
  generalize w3.alloc (.cells (six (exU 0)) 27) = w4 at hF ⊢
  have HF := Lib.hid hF
  clear hz hF hq H3 HM HB hmz
  go_wp2_with fail
  go_loopw [5, 7, 26] (fun tv ev iv wr => ∃ i : Nat, i ≤ 4 ∧ iv = .int .i64 i ∧ tv = .int .i64 (exT i) ∧ ev = .int .i64 0 ∧ FixAt w p q (cb + 1) cb i wr) (fun _ _ iv _ => 4 - (intOf iv).toNat)
  case atStart => exact ⟨0, by omega, rfl, rfl, rfl, HF.out⟩
  case round =>
    clear HF
    obtain ⟨i, hi, rfl, rfl, rfl, hF⟩ := hrel
    obtain ⟨f1, f2, ⟨l, s, hm, l0, s0, hls⟩, hb⟩ := hF
    by_cases hlt : i < 4
    · have hlt1 : (i : Int) < 4 := by omega
      obtain ⟨n, hn, hd⟩ := ex_put i hlt
      have hcall := put_at HK.out (T := 128) (L := 133) hm l0 s0 (by omega) (exCs_u i hi) hd hn ex_laid (exU_in i hi) (by unfold exT; rcases (show i = 0 ∨ i = 1 ∨ i = 2 ∨ i = 3 by omega) with rfl | rfl | rfl | rfl <;> decide) (by unfold exT; rcases (show i = 0 ∨ i = 1 ∨ i = 2 ∨ i = 3 by omega) with rfl | rfl | rfl | rfl <;> decide) (by omega) (by omega)
      have HC := Lib.hid hcall
      have hu1 : (5 : Int) + (i : Int) = ((5 + i : Nat) : Int) := by omega
      have hu2 : IntKind.i64.wrap ((5 + i : Nat) : Int) = ((5 + i : Nat) : Int) := IntWalk.i64_in _ (by omega)
      have hu3 : IntKind.u32.wrap ((5 + i : Nat) : Int) = ((5 + i : Nat) : Int) := IntWalk.u32_in _ (by omega)
      obtain ⟨v, hv⟩ : ∃ v : Nat, v = 5 + i := ⟨_, rfl⟩
      rw [← hv] at hu1 hu2 hu3 HC
      have F1 := Lib.hid f1
      have F2 := Lib.hid f2
      have HM := Lib.hid hm
      have HB := Lib.hid hb
      have HN := Lib.hid (And.intro hn hls)
      have hml := lt_of_heap hm.rec_
      have hcl := lt_of_heap hm.row
      have hql := lt_of_heap f2
      have hpl := lt_of_heap f1
      have hpq : p ≠ q := by rintro rfl; have := f1.symm.trans f2; simp [planC, six] at this
      have hpm : p ≠ cb + 1 ∧ p ≠ cb := ⟨by rintro rfl; have := f1.symm.trans hm.rec_; simp [planC] at this, by rintro rfl; have := f1.symm.trans hm.row; simp at this⟩
      have HX := Lib.hid (And.intro hpq (And.intro hpm (And.intro hml (And.intro hcl (And.intro hql hpl)))))
      clear hcall hd hv f1 f2 hm hb hn hls hml hcl hql hpl hpq hpm l0 s0
      go_wp2_with (first
        | (refine wpList_load_row rfl 29 (.tmp 1) rfl p rfl 29 (planC exB exS 23 128 133) (0, 0) _ F1.out Try.underlying29 rfl (planC_info _ _ _ _ _) ?_)
        | (refine wpList_load_row rfl 27 (.tmp 6) rfl q rfl 27 (six (exU i)) (0, 0) _ F2.out Try.underlying27 rfl (six_info _) ?_)
        | fail)
      refine HC.out.mono ?_
      clear HC
      rintro e w5 ⟨rfl, ⟨l', s', hm5, a0, a1, a2⟩, _, hmod⟩
      obtain ⟨hpq, ⟨hpm, hpc⟩, hml, hcl, hql, hpl⟩ := HX.out
      have f1 := (hmod.block p hpl (by omega)).trans F1.out
      have f2 := (hmod.block q hql (by omega)).trans F2.out
      have hb5 : Below w.heap.size w w5 := HB.out.trans (hmod.below HB.out.size fun k hk e => by omega)
      have F1 := Lib.hid f1
      have F2 := Lib.hid f2
      have HB := Lib.hid hb5
      have HM := Lib.hid (And.intro hm5 (And.intro a0 (And.intro a1 a2)))
      clear hmod f1 f2 hb5 hm5 a0 a1 a2 hml hcl hql hpl
      go_wp2_with (refine wpList_store_row rfl 27 (.tmp 6) (.tmp 39) rfl q (six (exU (i + 1))) rfl rfl 27 (six (exU i)) F2.out (six_info _) rfl (six_one _) ?_)
      go_roundw
      case rel =>
        obtain ⟨hm5, a0, a1, a2⟩ := HM.out
        obtain ⟨hn, hls⟩ := HN.out
        refine ⟨i + 1, by omega, by go_num, rfl, rfl, ?_⟩
        refine ⟨(setRow_other _ _ _ _ hpq).trans F1.out, setRow_heap _ _ _ _ _ _ F2.out, ⟨l', s', hm5.of_blocks (setRow_other _ _ _ _ (by omega)) (setRow_other _ _ _ _ (by omega)), a0, a1, by omega⟩, below_setRow HB.out (by omega) _⟩
      case measure => simp [intOf]; omega
    · obtain rfl : i = 4 := by omega
      have F1 := Lib.hid f1
      have F2 := Lib.hid f2
      have HB := Lib.hid hb
      have HLS := Lib.hid (And.intro l0 (And.intro s0 hls))
      have HL7 := Lib.hid (load_z hm 7 6 (by decide) l0 (by omega))
      have hpm : p ≠ cb + 1 ∧ p ≠ cb := ⟨by rintro rfl; have := f1.symm.trans hm.rec_; simp [planC] at this, by rintro rfl; have := f1.symm.trans hm.row; simp at this⟩
      have HX := Lib.hid hpm
      clear f1 f2 hm hb l0 s0 hls hpm
      go_wp2_with fail
      refine HL7.out.mono ?_
      clear HL7
      rintro e w5 ⟨rfl, hm5, hmod⟩
      obtain ⟨hpm, hpc⟩ := HX.out
      have f1 := (hmod.block p (lt_of_heap F1.out) (by omega)).trans F1.out
      have f2 := (hmod.block q (lt_of_heap F2.out) (by omega)).trans F2.out
      have hb5 : Below w.heap.size w w5 := HB.out.trans (hmod.below HB.out.size fun k hk e => by omega)
      have HWk := Lib.hid (walk_at HK.out (T := 128) (L := 133) hm5 (by have := HLS.out.1; omega) HLS.out.2.1 (by have := HLS.out.2.2; omega) (exCs_u 4 (by omega)) ex_laid (by decide) ex_chain)
      have F1 := Lib.hid f1
      have F2 := Lib.hid f2
      have HB := Lib.hid hb5
      have h1 := HE.out.1
      clear hmod f1 f2 hb5 hm5
      go_wp2_with (first
        | (refine wpList_load_row rfl 27 (.tmp 6) rfl q rfl 27 (six (exU 4)) (0, 0) _ F2.out Try.underlying27 rfl (six_info _) ?_)
        | (refine wpList_load_row_g rfl 27 (.tmp 6) rfl q rfl 27 (six (exU 4)) (0, 0) _ F2.out Try.underlying27 rfl (six_info _) ?_)
        | (refine wpList_load_row_g rfl 29 (.tmp 1) rfl p rfl 29 (planC exB exS 23 128 133) (0, 0) _ F1.out Try.underlying29 rfl (planC_info _ _ _ _ _) ?_)
        | fail)
      refine HWk.out.mono ?_
      clear HWk h1
      rintro e w6 ⟨oa, c, rfl, _, _, _, hrd, _, _, hmod⟩
      have f1 := (hmod.block p (lt_of_heap F1.out) (by have := HX.out; omega)).trans F1.out
      have hb6 : Below w.heap.size w w6 := HB.out.trans (hmod.below HB.out.size fun k hk e => by omega)
      have F1 := Lib.hid f1
      have HB := Lib.hid hb6
      have HR := Lib.hid hrd
      clear hmod f1 hb6 hrd
      go_wp2_with fail
      refine (same32_at _ oa (some ⟨w6.heap.size, 0, none⟩) c 4 4 4 [8, 7, 6, 5] [8, 7, 6, 5] rfl rfl (HR.out.alloc _) (readN_new .u32 w6 [8, 7, 6, 5] _) (by decide)).mono ?_; rintro e w7 ⟨rfl, hb⟩
      have f1 := (hb.block p (by have := lt_of_heap F1.out; simp; omega)).trans (heap_below F1.out)
      have hb7 : Below w.heap.size w w7 := low_more (low_new HB.out) hb
      have F1 := Lib.hid f1
      have HB := Lib.hid hb7
      clear hb f1 hb7
      go_wp2_with (first
        | (refine wpList_load_row_g rfl 29 (.tmp 1) rfl p rfl 29 (planC exB exS 23 128 133) (0, 0) _ F1.out Try.underlying29 rfl (planC_info _ _ _ _ _) ?_)
        | fail)
      refine (HK.out.need w7 exB exS 23 128 133 6 1 ex_laid (by decide) (by decide) (by decide) (by decide)).mono ?_
      rw [ex_need]
      rintro e w8 ⟨rfl, hb⟩
      have hb8 := low_more HB.out hb
      have HB := Lib.hid hb8
      have h2 := HE.out.2
      clear hb hb8
      go_wp2_with fail
      go_ret
      exact ⟨rfl, HB.out⟩
end Go.Proofs.Ytiabmbkmahlhkaa
