/-
  Blanks at both ends of a query's text play no part. Over the program's own text.
-/
import Derived.Test.YtmjjgjckpibmkaaDoorQryWalkB
namespace Go.Proofs.YtmjjgjckpibmkaaDoor
open Go.RowKit

set_option maxRecDepth 100000 in
theorem blank_cut (b : ByteArray) (h : Bl (bytesL b)) (hb : b.size ≤ 3) (n : Nat) : Bl (bytesL (b.extract 0 n)) ∧ (b.extract 0 n).size ≤ 3 := by
  refine ⟨fun c hc => ?_, by rw [ByteArray.size_extract]; omega⟩
  apply h
  unfold bytesL at hc ⊢
  rw [ByteArray.data_extract, Array.toList_extract] at hc
  obtain ⟨x, hx, rfl⟩ := List.mem_map.1 hc
  refine List.mem_map.2 ⟨x, ?_, rfl⟩
  exact List.mem_of_mem_drop (List.mem_of_mem_take hx)
set_option maxRecDepth 100000 in
theorem bl_a : Bl (bytesL ⟨#[32, 9, 10]⟩) := by unfold Bl; decide +kernel
set_option maxRecDepth 100000 in
theorem bl_b : Bl (bytesL ⟨#[13, 32, 9]⟩) := by unfold Bl; decide +kernel
set_option maxRecDepth 100000 in
set_option maxHeartbeats 4000000 in
theorem blanks17 (W : World) (hT : TQ W) (s : ByteArray) (k : Int) (h0 : 0 ≤ k) (h1 : k ≤ 255) (hs : (s.size : Int) ≤ 9223372036854775807) :
    Calls Tryd.prog 3 #[.string s, .int .u8 k] W fun e w' => e = .returned (.bool true) ∧ Below W.heap.size W w' := by
  have HF := Lib.hid (fun wx (hb : Below W.heap.size W wx) => fixed17 wx (hT.below hb))
  have HP := Lib.hid (fun wx (s : ByteArray) (hb : Below W.heap.size W wx) (hs : s.size ≤ 1000000) => parse_any wx s (hT.below hb).1 (hT.below hb).2 hs)
  clear hT
  by_cases hl : (200 : Int) < (s.size : Int)
  · go_enter Tryd.func3, Tryd.ntmps3
    go_wp2_with fail
    refine (HF.out W (Below.refl _ _)).mono ?_
    rintro e w1 ⟨rfl, hb1⟩
    go_wp2_with fail
    go_ret
    exact ⟨rfl, hb1⟩
  · go_enter Tryd.func3, Tryd.ntmps3
    go_upto_region 3 with fail
    go_region
    obtain ⟨a, ha⟩ : ∃ a : ByteArray, a = ByteArray.extract ⟨#[32, 9, 10]⟩ 0 (k % 4).toNat := ⟨_, rfl⟩
    obtain ⟨b, hb⟩ : ∃ b : ByteArray, b = ByteArray.extract ⟨#[13, 32, 9]⟩ 0 (k / 4 % 4).toNat := ⟨_, rfl⟩
    have hA := blank_cut ⟨#[32, 9, 10]⟩ bl_a (by decide) (k % 4).toNat
    have hB := blank_cut ⟨#[13, 32, 9]⟩ bl_b (by decide) (k / 4 % 4).toNat
    rw [← ha] at hA ⊢
    rw [← hb] at hB ⊢
    have hx := blanks_x hA.1 hB.1 (show s.size ≤ 200 by omega) hA.2 hB.2
    have HZ := Lib.hid (show s.size ≤ 1000000 ∧ (a ++ s ++ b).size ≤ 1000000 by rw [ByteArray.size_append, ByteArray.size_append]; omega)
    have HX := Lib.hid hx
    have HW := Lib.hid (Below.refl W.heap.size W).drew
    clear ha hb hA hB hx hs hl
    generalize k % 4 = k1
    generalize k / 4 % 4 = k2
    generalize k / 4 = k3
    clear h0 h1
    generalize W.drew = w0 at HW ⊢
    obtain ⟨y, hy⟩ : ∃ y, y = parseX s := ⟨_, rfl⟩
    have HY := Lib.hid hy
    go_upto_region 4 with fail
    go_wp2_with fail
    refine (HP.out w0 s HW.out HZ.out.1).mono ?_
    rintro e w1 ⟨v, rfl, ⟨⟨k5, f5, tv5, kv5⟩, rfl, hr⟩, hb1⟩
    rw [← hy] at hr ⊢
    clear hy
    obtain ⟨ta5, tn5, tc5, ka5, kn5, kc5, rfl, rfl⟩ := hr.slices
    obtain ⟨l5, hl5⟩ : ∃ l5, l5 = y.1.2.lim := ⟨_, rfl⟩
    obtain ⟨m5, hm5⟩ : ∃ m5, m5 = y.1.2.ord := ⟨_, rfl⟩
    obtain ⟨c5, hc5⟩ : ∃ c5, c5 = y.2 := ⟨_, rfl⟩
    rw [← hl5, ← hm5, ← hc5]
    have HL5 := Lib.hid (And.intro hl5 (And.intro hm5 hc5))
    clear hl5 hm5 hc5
    obtain ⟨X, hX⟩ : ∃ X : Obj, X = .cells #[.int .i64 k5, .int .u8 f5, .slice ta5 tn5 tc5, .slice ka5 kn5 kc5, .int .i64 l5, .int .i64 m5] 28 := ⟨_, rfl⟩
    have hb2 := hb1.alloc hb1.size X
    have HB1 := Lib.hid (low_more HW.out hb2)
    have HR1 := Lib.hid (And.intro (hr.after (below_one (w := w1) (A := X))) (heap_alloc_new w1 X))
    clear hb1 hb2 hr
    simp only [qryC, rnC, List.cons_append, List.nil_append]
    go_upto_region 5 with fail
    rw [← hX]
    generalize w1.heap.size = q1 at HR1 ⊢
    generalize w1.alloc X = w2 at HR1 HB1 ⊢
    clear w1
    have hadd1 : ∀ wx, (Op.stringOp .add a s).run Tryd.prog wx = .ok (.string (a ++ s)) wx := fun wx => run_string_add_sum wx _ _ (by have := HZ.out.2; rw [ByteArray.size_append, ByteArray.size_append] at this; omega)
    have hadd2 : ∀ wx, (Op.stringOp .add (a ++ s) b).run Tryd.prog wx = .ok (.string (a ++ s ++ b)) wx := fun wx => run_string_add_sum wx _ _ (by have := HZ.out.2; simp only [ByteArray.size_append] at this ⊢; omega)
    go_wp2_with fail
    clear hadd1 hadd2
    refine (HP.out w2 (a ++ s ++ b) HB1.out HZ.out.2).mono ?_
    rintro e w3 ⟨v, rfl, ⟨⟨k6, f6, tv6, kv6⟩, rfl, hr⟩, hb3⟩
    rw [HX.out, ← HY.out] at hr ⊢
    rw [← HL5.out.1, ← HL5.out.2.1, ← HL5.out.2.2]
    obtain ⟨ta6, tn6, tc6, ka6, kn6, kc6, rfl, rfl⟩ := hr.slices
    obtain ⟨Y, hY⟩ : ∃ Y : Obj, Y = .cells #[.int .i64 k6, .int .u8 f6, .slice ta6 tn6 tc6, .slice ka6 kn6 kc6, .int .i64 l5, .int .i64 m5] 28 := ⟨_, rfl⟩
    have hb4 := hb3.alloc hb3.size Y
    have HB2 := Lib.hid (low_more HB1.out hb4)
    have HR2 := Lib.hid (And.intro (hr.after (below_one (w := w3) (A := Y))) (heap_alloc_new w3 Y))
    have HR3 := Lib.hid (And.intro (HR1.out.1.after hb4) (blk_low HR1.out.2 hb4))
    clear hb3 hb4 hr HR1
    simp only [qryC, rnC, List.cons_append, List.nil_append]
    go_upto_region 6 with fail
    rw [← hY]
    generalize w3.heap.size = q2 at HR2 ⊢
    generalize w3.alloc Y = w4 at HR2 HR3 HB2 ⊢
    clear w3
    go_wp2_with fail
    refine (HF.out w4 HB2.out).mono ?_
    rintro e w5 ⟨rfl, hb5⟩
    have HB3 := Lib.hid (low_more HB2.out hb5)
    have HR4 := Lib.hid (And.intro (HR2.out.1.after hb5) (HR3.out.1.after hb5))
    have hq2 := blk_low HR2.out.2 hb5
    have hq1 := blk_low HR3.out.2 hb5
    rw [hY] at hq2
    rw [hX] at hq1
    clear hb5 HR2 HR3
    have c0 := cell_at hq1 0
    have d0 := cell_at hq2 0
    have c1 := cell_at hq1 1
    have d1 := cell_at hq2 1
    have c2 := cell_at hq1 2
    have d2 := cell_at hq2 2
    have c3 := cell_at hq1 3
    have d3 := cell_at hq2 3
    have c4 := cell_at hq1 4
    have d4 := cell_at hq2 4
    have c5 := cell_at hq1 5
    have d5 := cell_at hq2 5
    go_wp2_with fail
    have HN := same_query w5 _ _ y.1.1 l5 m5 (by rw [HY.out]; exact few_x) _ _ HR4.out.2 HR4.out.1
    simp only [qryC, rnC, List.cons_append, List.nil_append] at HN
    refine HN.mono ?_
    rintro e w6 ⟨rfl, hb6⟩
    go_wp2_with fail
    go_ret
    exact ⟨rfl, low_more HB3.out hb6⟩
end Go.Proofs.YtmjjgjckpibmkaaDoor
