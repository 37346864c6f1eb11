/-
  Layer 17 as it landed: 'not', and with it all parts, however deep. Over the program's own text.
  Layer 17 as it landed: limits and orders. Over the program's own text.
  Layer 17 as it landed: a query is read. Over the program's own text.
  Layer 17 as it landed: Parse, which recovers. Over the program's own text.
  Trees that are the same: what the reference says of them. Over the program's own text.
  A tree that was read has no more terms and kids than the text has runes; runes of texts put together. Without the program's text, but for what a tree's bound is.
  What layer 17's statements share: the laid variables; the reference's SameQuery. Over the program's own text.
-/
import Derived.Test.YtaaeooimalglaaaDoorQryReadB
import Derived.Test.YtaaeooimalglaaaDoorQryAtoi
import Derived.Test.YtaaeooimalglaaaDoorShelf
import Derived.Defers
import Derived.Recover
import Derived.Test.YtaaeooimalglaaaDoorTokSame
import Derived.Test.YtaaeooimalglaaaDoorRegionC
import Derived.Test.YtaaeooimalglaaaDoorQryLike
import Derived.Test.YtaaeooimalglaaaDoorRows
namespace Go.Proofs.YtaaeooimalglaaaDoor
open Go.RowKit

set_option maxRecDepth 100000 in
theorem Rdr.shut {W0 w : World} {rb : Nat} {R : List Nat} {op : Int} (h : Rdr W0 w rb R op) (op' : Int) : Rdr W0 (w.setCell ⟨rb, 1, none⟩ (.int .i64 op')) rb R op' := by
  obtain ⟨oa, c, hh, hc, hm, hr, hb⟩ := h.rd
  exact h.turn (mod_set _) (List.suffix_refl _) (c := c) (oa := oa) (by rw [heap_setCell_same _ _ _ _ _ _ hh]; rfl) hc hm hr hb
set_option maxRecDepth 100000 in
theorem blk_ne {w : World} {g b : Nat} {o : Obj} (h : w.heap[g]? = some o) (hne : g ≠ b) (v : Value) (j : Nat) : (w.setCell ⟨b, j, none⟩ v).heap[g]? = some o := (Below.heap_setCell _ _ _ _ hne).trans h
set_option maxRecDepth 100000 in
theorem Rdr.open_ {W0 w : World} {rb : Nat} {R : List Nat} {op : Int} (h : Rdr W0 w rb R op) : w.cell? ⟨rb, 1, none⟩ = some (.int .i64 op) ∧ w.frozen? ⟨rb, 1, none⟩ = false := by
  obtain ⟨oa, c, hh, _⟩ := h.rd
  exact ⟨cell_at hh 1, free_at hh 1⟩
set_option maxRecDepth 100000 in
theorem RdN.slices {w : World} {S : Nat → Prop} {x : Nd} {kd fd : Int} {tv kv : Value} (h : RdN w S x (kd, fd, tv, kv)) : ∃ ta tn tc ka kn kc, tv = .slice ta tn tc ∧ kv = .slice ka kn kc := by
  cases h
  exact ⟨_, _, _, _, _, _, rfl, rfl⟩
set_option maxRecDepth 100000 in
/-- A sign that turns, and what it turns. -/
theorem turned {w : World} {S S' : Nat → Prop} {x : Nd} {r : Rn} {g : Nat} (h : RdN w S x r) (hg : w.heap[g]? = some (.cells (rnC r).toArray 26 (0, 0))) (hS : ∀ b, S b → S' b) (hg2 : S' g) : RdN w S' (.mk 4 0 [] [x]) (4, 0, .slice none 0 0, .slice (some ⟨g, 0, none⟩) 1 1) := by
  refine RdN.mk (w := w) (S := S') (k := 4) (f := 0) (ts := []) (ks := [x]) (ta := none) (tc := 0) (kc := 1) (rs := [r]) (by decide) (by decide) (fun j y hj => by simp at hj) (Nat.le_refl _) (by decide) (fun a ha _ => by cases ha) (fun j s hj => ?_) (Nat.le_refl _) (by decide) (fun a ha _ => by injection ha with ha; subst ha; exact hg2) rfl (fun j y s h1 h2 => ?_)
  · cases j with
    | succ j => simp at hj
    | zero =>
      simp at hj
      subst hj
      refine ⟨g, 0, rfl, fun i v hv => ?_⟩
      rw [cell_at hg]
      simpa using hv
  · cases j with
    | succ j => simp at h1
    | zero => simp at h1 h2; subst h1 h2; exact h.mono fun b _ hb => hS b hb
set_option maxRecDepth 100000 in
theorem close_ok {k : Nat} {n : Nd} {l : List Nat} (h : headZ (skipB l) = 41) : closeP k (.ok n l) = .ok n ((skipB l).drop 1) := by
  show (if _ then _ else _) = _
  rw [if_pos h]
set_option maxRecDepth 100000 in
theorem close_no {k : Nat} {n : Nd} {l : List Nat} (h : ¬ headZ (skipB l) = 41) : closeP k (.ok n l) = .err (failE k (skipB l)) := by
  show (if _ then _ else _) = _
  rw [if_neg h]
set_option maxRecDepth 100000 in
theorem head_len {l : List Nat} {c : Int} (h : headZ l = c) (h0 : 0 ≤ c) : 1 ≤ l.length := by rw [headZ_cons h h0]; simp
set_option maxRecDepth 100000 in
set_option maxHeartbeats 4000000 in
theorem not_zero : NotOk 0 := by
  intro W0 w rb R h
  have hrb := h.lt
  have HN := Lib.hid (next_any (h.below (below_one (A := .cells zeroNd 26))))
  obtain ⟨hd, hhd⟩ : ∃ hd, hd = headZ (skipB R) := ⟨_, rfl⟩
  obtain ⟨xp, hxp⟩ : ∃ xp, xp = notP 0 R := ⟨_, rfl⟩
  rw [← hxp]
  rw [notP, ← hhd] at hxp
  rw [← hhd] at HN
  have HHd := Lib.hid hhd
  have HI := Lib.hid hrb
  have hZ : zeroNd = #[.int .i64 0, .int .u8 0, .slice none 0 0, .slice none 0 0] := rfl
  clear h hrb hhd
  by_cases hdp : hd = 33 ∨ hd = 40
  · rw [if_pos hdp] at hxp
    have HXp := Lib.hid hxp
    clear hxp
    go_enter Tryd.func38, Tryd.ntmps38
    go_wp2_with fail
    refine HN.out.mono ?_
    rintro e w3 ⟨rfl, h3, h4⟩
    have HE := Lib.hid (enter_deep h3)
    have H4 := Lib.hid h4
    clear h3 h4 HN HHd
    rcases hdp with rfl | rfl
    all_goals go_wp2_with fail
    all_goals (refine HE.out.mono ?_; rintro e w4 ⟨rfl, rfl⟩; exact ⟨rfl, mod_al H4.out, by rw [HXp.out]; rfl⟩)
  · rw [if_neg hdp] at hxp
    have HXp := Lib.hid hxp
    have h33 : ¬ hd = 33 := fun e => hdp (.inl e)
    have h40 : ¬ hd = 40 := fun e => hdp (.inr e)
    clear hxp hdp
    go_enter Tryd.func38, Tryd.ntmps38
    go_wp2_with fail
    refine HN.out.mono ?_
    rintro e w3 ⟨rfl, h3, h4⟩
    have HLf := Lib.hid (leafr_any (k := 0) h3 (by omega))
    have H4 := Lib.hid h4
    have HS3 := Lib.hid (show w.heap.size + 1 ≤ w3.heap.size from by have := h4.size; simpa using this)
    clear h3 h4 HN
    cases hx : leafP 0 (skipB R) with
    | err c =>
      have HC := Lib.hid (did_err HLf.out hx)
      have HX := Lib.hid hx
      clear hx
      go_wp2_with fail
      refine HC.out.mono ?_
      rintro e w4 ⟨rfl, h5⟩
      exact ⟨rfl, mod_al (H4.out.trans h5), by rw [HXp.out, HX.out]; rfl⟩
    | ok n R1 =>
      have HC := Lib.hid (did_ok HLf.out hx)
      have HX := Lib.hid hx
      clear hx
      go_wp2_with fail
      refine HC.out.mono ?_
      rintro e w4 ⟨v, rfl, ⟨r6, rfl, hrd⟩, h5, h6⟩
      have H7 := Lib.hid hrd
      have HM := Lib.hid (H4.out.trans h6)
      have HZ := Lib.hid (res_block HM.out HI.out)
      have H10 := Lib.hid h5
      clear hrd h5 h6
      go_wp2_with (refine wpList_store_row rfl 26 (.tmp 2) (.tmp 45) rfl w.heap.size (rnC r6).toArray rfl rfl 26 zeroNd HZ.out (node_info r6) rfl H7.out.one ?_)
      refine bodyPost_ret (v := rnV r6) (results_cell_row rfl _ _ w.heap.size _ _ (0, 0) _ rfl (setRow_heap _ _ _ _ _ _ HZ.out) Tryd.underlying26 rfl (node_info r6)) rfl ?_
      refine ⟨res_mod HM.out, ?_⟩
      rw [HXp.out, HX.out]
      exact ⟨rnV r6, rfl, ⟨r6, rfl, node_after H7.out (Nat.lt_of_succ_le HS3.out) (Nat.le_of_lt (Nat.lt_of_succ_le HS3.out))⟩, row_rdr H10.out HI.out⟩
set_option maxRecDepth 100000 in
set_option maxHeartbeats 8000000 in
theorem not_succ {k : Nat} (hk : k + 1 ≤ 8) (hn : NotOk k) (ho : OrOk k) : NotOk (k + 1) := by
  intro W0 w rb R h
  have hrb := h.lt
  have HN := Lib.hid (next_any (h.below (below_one (A := .cells zeroNd 26))))
  obtain ⟨hd, hhd⟩ : ∃ hd, hd = headZ (skipB R) := ⟨_, rfl⟩
  obtain ⟨xp, hxp⟩ : ∃ xp, xp = notP (k + 1) R := ⟨_, rfl⟩
  rw [← hxp]
  rw [notP, ← hhd] at hxp
  rw [← hhd] at HN
  have HHd := Lib.hid hhd
  have HI := Lib.hid hrb
  have hZ : zeroNd = #[.int .i64 0, .int .u8 0, .slice none 0 0, .slice none 0 0] := rfl
  clear h hrb hhd
  by_cases h33 : hd = 33
  · rw [if_pos h33] at hxp
    have HXp := Lib.hid hxp
    clear hxp
    go_enter Tryd.func38, Tryd.ntmps38
    go_wp2_with fail
    refine HN.out.mono ?_
    rintro e w3 ⟨rfl, h3, h4⟩
    have HE := Lib.hid (enter_ok h3 (by omega) (by omega) (head_len (HHd.out.symm.trans h33) (by omega)))
    have H4 := Lib.hid h4
    clear h3 h4 HN
    go_wp2_with fail
    refine HE.out.mono ?_
    rintro e w4 ⟨rfl, h5, h6⟩
    rw [show (8 : Int) - ((k + 1 : Nat) : Int) + 1 = 8 - (k : Int) by omega] at h5
    have HNt := Lib.hid (hn W0 w4 rb _ h5)
    have H6 := Lib.hid (H4.out.trans h6)
    clear h5 h6 HE
    cases hx : notP k ((skipB R).drop 1) with
    | err c =>
      have HC := Lib.hid (did_err HNt.out hx)
      have HX := Lib.hid hx
      clear hx
      go_wp2_with fail
      refine HC.out.mono ?_
      rintro e w5 ⟨rfl, h7⟩
      exact ⟨rfl, mod_al (H6.out.trans h7), by rw [HXp.out, HX.out]; rfl⟩
    | ok n R1 =>
      have HC := Lib.hid (did_ok HNt.out hx)
      have HX := Lib.hid hx
      clear hx
      go_wp2_with fail
      refine HC.out.mono ?_
      rintro e w5 ⟨v, rfl, ⟨⟨kd, fd, tv, kv⟩, rfl, hrd⟩, h7, h8⟩
      obtain ⟨ta, tn, tc, ka, kn, kc, rfl, rfl⟩ := hrd.slices
      rw [show rnV (kd, fd, (.slice ta tn tc), (.slice ka kn kc)) = .agg #[.int .i64 kd, .int .u8 fd, (.slice ta tn tc), (.slice ka kn kc)] from rfl]
      have HM := Lib.hid (H6.out.trans h8)
      have HS4 := Lib.hid (show w.heap.size + 1 ≤ w4.heap.size from by have := H6.out.size; simpa using this)
      have hb5 := below_one (w := w5) (A := .cells #[.int .i64 kd, .int .u8 fd, (.slice ta tn tc), (.slice ka kn kc)] 26)
      have H7 := Lib.hid (h7.below hb5)
      have HRd := Lib.hid ((hrd.mono (S' := fun b => w4.heap.size ≤ b ∧ b < w5.heap.size) fun b h1 h2 => ⟨h2, h1⟩).after hb5)
      have HM2 := Lib.hid (HM.out.trans (below_mod hb5))
      have HBx := Lib.hid (heap_alloc_new w5 (.cells #[.int .i64 kd, .int .u8 fd, (.slice ta tn tc), (.slice ka kn kc)] 26))
      have HS5 := Lib.hid (show (w5.alloc (.cells #[.int .i64 kd, .int .u8 fd, (.slice ta tn tc), (.slice ka kn kc)] 26)).heap.size = w5.heap.size + 1 from by simp)
      have HS6 := Lib.hid (show w4.heap.size ≤ w5.heap.size from h8.size)
      clear hrd h7 h8 hb5
      go_upto_region 5 with fail
      generalize w5.alloc (.cells #[.int .i64 kd, .int .u8 fd, (.slice ta tn tc), (.slice ka kn kc)] 26) = w6 at H7 HRd HM2 HBx HS5 ⊢
      obtain ⟨q1, f1⟩ := H7.out.open_
      have hw1 : IntKind.i64.wrap (8 - (k : Int) - 1) = 8 - (k : Int) - 1 := IntWalk.i64_in _ (by omega)
      go_upto_region 6 with fail
      have hbx := blk_ne HBx.out (show w5.heap.size ≠ rb by have := HI.out; have := HS4.out; have := HS6.out; omega) (.int .i64 (8 - (k : Int) - 1)) 1
      have h9 : Rdr W0 (w6.setCell ⟨rb, 1, none⟩ (.int .i64 (8 - (k : Int) - 1))) rb R1 (8 - ((k + 1 : Nat) : Int)) := by rw [show (8 : Int) - ((k + 1 : Nat) : Int) = 8 - (k : Int) - 1 by omega]; exact H7.out.shut _
      have hm9 : Mod (fun k => k = rb) w6 (w6.setCell ⟨rb, 1, none⟩ (.int .i64 (8 - (k : Int) - 1))) := mod_set _
      have HRd9 := Lib.hid (HRd.out.mod hm9 (fun b hb => by have := HI.out; have := HS4.out; omega))
      have HM9 := Lib.hid (HM2.out.trans hm9)
      have HS9 := Lib.hid hm9.size
      have HBx9 := Lib.hid hbx
      have H9 := Lib.hid h9
      clear hbx h9 hm9 q1 f1 H7 HRd HM2 HBx hw1
      generalize w6.setCell ⟨rb, 1, none⟩ (.int .i64 (8 - (k : Int) - 1)) = w7 at H9 HRd9 HM9 HBx9 HS9 ⊢
      have HZ := Lib.hid (res_block (HM9.out.alloc (.cells #[.int .i64 kd, .int .u8 fd, .slice ta tn tc, .slice ka kn kc] 26)) HI.out)
      go_wp2_with (first
        | (refine wpList_load_row rfl 26 (.tmp 3) rfl w5.heap.size rfl 26 #[.int .i64 kd, .int .u8 fd, .slice ta tn tc, .slice ka kn kc] (0, 0) _ HBx9.out Tryd.underlying26 rfl (node_info (kd, fd, .slice ta tn tc, .slice ka kn kc)) ?_)
        | (refine wpList_store_row rfl 26 (.tmp 2) (.tmp 22) rfl w.heap.size #[.int .i64 4, .int .u8 0, .slice none 0 0, .slice (some ⟨w7.heap.size, 0, none⟩) 1 1] rfl rfl 26 zeroNd HZ.out (node_info (4, 0, .slice none 0 0, .slice (some ⟨w7.heap.size, 0, none⟩) 1 1)) rfl node_one ?_)
        | fail)
      try rw [Exit.noGoto_ret]
      refine bodyPost_ret (v := rnV (4, 0, .slice none 0 0, .slice (some ⟨w7.heap.size, 0, none⟩) 1 1)) (results_cell_row rfl _ _ w.heap.size _ _ (0, 0) _ rfl (setRow_heap _ _ _ _ _ _ HZ.out) Tryd.underlying26 rfl (node_info _)) rfl ?_
      refine ⟨res_mod (HM9.out.alloc _), ?_⟩
      rw [HXp.out, HX.out]
      have hs7 : w.heap.size + 1 ≤ w7.heap.size := by have := HS4.out; have := HS6.out; have := HS5.out; have := HS9.out; omega
      have hal := below_one (w := w7) (A := .cells #[.int .i64 kd, .int .u8 fd, .slice ta tn tc, .slice ka kn kc] 26)
      have htn := turned (S' := fromB (w.heap.size + 1)) (HRd9.out.after hal) (heap_alloc_new w7 _) (fun b hb => by have := HS4.out; unfold fromB; omega) (by unfold fromB; omega)
      exact ⟨_, rfl, ⟨_, rfl, node_after htn (Nat.lt_succ_self _) (Nat.le_succ _)⟩, row_rdr (H9.out.below hal) HI.out⟩
  · rw [if_neg h33] at hxp
    by_cases h40 : hd = 40
    · rw [if_pos h40] at hxp
      have HXp := Lib.hid hxp
      clear hxp
      go_enter Tryd.func38, Tryd.ntmps38
      go_wp2_with fail
      refine HN.out.mono ?_
      rintro e w3 ⟨rfl, h3, h4⟩
      have HE := Lib.hid (enter_ok h3 (by omega) (by omega) (head_len (HHd.out.symm.trans h40) (by omega)))
      have H4 := Lib.hid h4
      clear h3 h4 HN
      go_wp2_with fail
      refine HE.out.mono ?_
      rintro e w4 ⟨rfl, h5, h6⟩
      rw [show (8 : Int) - ((k + 1 : Nat) : Int) + 1 = 8 - (k : Int) by omega] at h5
      have HNt := Lib.hid (ho W0 w4 rb _ h5)
      have H6 := Lib.hid (H4.out.trans h6)
      clear h5 h6 HE
      cases hx : orP (andP (notP k)) ((skipB R).drop 1) with
      | err c =>
        have HC := Lib.hid (did_err HNt.out hx)
        have HX := Lib.hid hx
        clear hx
        go_wp2_with fail
        refine HC.out.mono ?_
        rintro e w5 ⟨rfl, h7⟩
        exact ⟨rfl, mod_al (H6.out.trans h7), by rw [HXp.out, HX.out]; rfl⟩
      | ok n R1 =>
        have HC := Lib.hid (did_ok HNt.out hx)
        have HX := Lib.hid hx
        clear hx
        go_wp2_with fail
        refine HC.out.mono ?_
        rintro e w5 ⟨v, rfl, ⟨⟨kd, fd, tv, kv⟩, rfl, hrd⟩, h7, h8⟩
        obtain ⟨ta, tn, tc, ka, kn, kc, rfl, rfl⟩ := hrd.slices
        rw [show rnV (kd, fd, .slice ta tn tc, .slice ka kn kc) = .agg #[.int .i64 kd, .int .u8 fd, .slice ta tn tc, .slice ka kn kc] from rfl]
        have HM := Lib.hid (H6.out.trans h8)
        have HS4 := Lib.hid (show w.heap.size + 1 ≤ w4.heap.size from by have := H6.out.size; simpa using this)
        have hb5 := below_one (w := w5) (A := .cells #[.int .i64 kd, .int .u8 fd, .slice ta tn tc, .slice ka kn kc] 26)
        have H7 := Lib.hid (h7.below hb5)
        have HRd := Lib.hid ((hrd.mono (S' := fun b => w4.heap.size ≤ b ∧ b < w5.heap.size) fun b h1 h2 => ⟨h2, h1⟩).after hb5)
        have HM2 := Lib.hid (HM.out.trans (below_mod hb5))
        have HBx := Lib.hid (heap_alloc_new w5 (.cells #[.int .i64 kd, .int .u8 fd, .slice ta tn tc, .slice ka kn kc] 26))
        have HS6 := Lib.hid (show w4.heap.size ≤ w5.heap.size from h8.size)
        clear hrd h7 h8 hb5
        go_upto_region 10 with fail
        generalize w5.alloc (.cells #[.int .i64 kd, .int .u8 fd, .slice ta tn tc, .slice ka kn kc] 26) = w6 at H7 HRd HM2 HBx ⊢
        have HN2 := Lib.hid (next_any H7.out)
        obtain ⟨h2d, hh2⟩ : ∃ h2d, h2d = headZ (skipB R1) := ⟨_, rfl⟩
        rw [← hh2] at HN2
        have HHd2 := Lib.hid hh2
        clear hh2
        by_cases h41 : h2d = 41
        · have hne : ¬ h2d ≠ 41 := fun e => e h41
          go_wp2_with fail
          refine HN2.out.mono ?_
          rintro e w7 ⟨rfl, h9, h10⟩
          have HPs := Lib.hid (pass_any h9 (head_len (HHd2.out.symm.trans h41) (by omega)))
          have H10 := Lib.hid h10
          clear h9 h10 HN2
          go_wp2_with fail
          refine HPs.out.mono ?_
          rintro e w8 ⟨rfl, h11, h12⟩
          obtain ⟨q1, f1⟩ := h11.open_
          have hm68 := H10.out.trans h12
          have hbx8 := (hm68.block w5.heap.size (lt_of_heap HBx.out) (by have := HI.out; have := HS4.out; have := HS6.out; omega)).trans HBx.out
          have HRd8 := Lib.hid (HRd.out.mod hm68 (fun b hb => by have := HI.out; have := HS4.out; omega))
          have HM8 := Lib.hid (HM2.out.trans hm68)
          have HB8 := Lib.hid hbx8
          have HR8 := Lib.hid h11
          have hw1 : IntKind.i64.wrap (8 - (k : Int) - 1) = 8 - (k : Int) - 1 := IntWalk.i64_in _ (by omega)
          clear h11 h12 hm68 hbx8 HPs
          go_upto_region 14 with fail
          have hbx9 := blk_ne HB8.out (show w5.heap.size ≠ rb by have := HI.out; have := HS4.out; have := HS6.out; omega) (.int .i64 (8 - (k : Int) - 1)) 1
          have h13 : Rdr W0 (w8.setCell ⟨rb, 1, none⟩ (.int .i64 (8 - (k : Int) - 1))) rb ((skipB R1).drop 1) (8 - ((k + 1 : Nat) : Int)) := by rw [show (8 : Int) - ((k + 1 : Nat) : Int) = 8 - (k : Int) - 1 by omega]; exact HR8.out.shut _
          have hm9 : Mod (fun k => k = rb) w8 (w8.setCell ⟨rb, 1, none⟩ (.int .i64 (8 - (k : Int) - 1))) := mod_set _
          have HRd9 := Lib.hid (HRd8.out.mod hm9 (fun b hb => by have := HI.out; have := HS4.out; omega))
          have HM9 := Lib.hid (HM8.out.trans hm9)
          have HBx9 := Lib.hid hbx9
          have H9 := Lib.hid h13
          clear hbx9 h13 hm9 q1 f1 H7 HRd HM2 HBx hw1 HR8 HRd8 HM8 HB8
          generalize w8.setCell ⟨rb, 1, none⟩ (.int .i64 (8 - (k : Int) - 1)) = w9 at H9 HRd9 HM9 HBx9 ⊢
          have HZ := Lib.hid (res_block HM9.out HI.out)
          go_wp2_with (first
            | (refine wpList_load_row rfl 26 (.tmp 4) rfl w5.heap.size rfl 26 #[.int .i64 kd, .int .u8 fd, .slice ta tn tc, .slice ka kn kc] (0, 0) _ HBx9.out Tryd.underlying26 rfl (node_info (kd, fd, .slice ta tn tc, .slice ka kn kc)) ?_)
            | (refine wpList_store_row rfl 26 (.tmp 2) (.tmp 43) rfl w.heap.size #[.int .i64 kd, .int .u8 fd, .slice ta tn tc, .slice ka kn kc] rfl rfl 26 zeroNd HZ.out (node_info (kd, fd, .slice ta tn tc, .slice ka kn kc)) rfl node_one ?_)
            | fail)
          try rw [Exit.noGoto_ret]
          refine bodyPost_ret (v := rnV (kd, fd, .slice ta tn tc, .slice ka kn kc)) (results_cell_row rfl _ _ w.heap.size _ _ (0, 0) _ rfl (setRow_heap _ _ _ _ _ _ HZ.out) Tryd.underlying26 rfl (node_info _)) rfl ?_
          refine ⟨res_mod HM9.out, ?_⟩
          rw [HXp.out, HX.out, close_ok (HHd2.out.symm.trans h41)]
          exact ⟨_, rfl, ⟨_, rfl, node_after (lo := w.heap.size + 1) (HRd9.out.mono fun b _ hb => by have := HS4.out; unfold fromB; omega) (Nat.lt_succ_self _) (Nat.le_succ _)⟩, row_rdr H9.out HI.out⟩
        · have hne : h2d ≠ 41 := h41
          have hb41 : (h2d != 41) = true := bne_iff_ne.2 h41
          go_wp2_with fail
          refine HN2.out.mono ?_
          rintro e w7 ⟨rfl, h9, h10⟩
          have HFl := Lib.hid (fail_any h9 (by omega))
          have H10 := Lib.hid (HM2.out.trans h10)
          clear h9 h10 HN2
          go_wp2_with fail
          refine HFl.out.mono ?_
          rintro e w8 ⟨rfl, h11⟩
          refine ⟨rfl, mod_al (H10.out.trans h11), ?_⟩
          rw [HXp.out, HX.out, close_no (fun e => h41 (HHd2.out.trans e))]
          rfl
    · rw [if_neg h40] at hxp
      have HXp := Lib.hid hxp
      clear hxp
      go_enter Tryd.func38, Tryd.ntmps38
      go_wp2_with fail
      refine HN.out.mono ?_
      rintro e w3 ⟨rfl, h3, h4⟩
      have HLf := Lib.hid (leafr_any (k := (k + 1)) h3 (by omega))
      have H4 := Lib.hid h4
      have HS3 := Lib.hid (show w.heap.size + 1 ≤ w3.heap.size from by have := h4.size; simpa using this)
      clear h3 h4 HN
      cases hx : leafP (k + 1) (skipB R) with
      | err c =>
        have HC := Lib.hid (did_err HLf.out hx)
        have HX := Lib.hid hx
        clear hx
        go_wp2_with fail
        refine HC.out.mono ?_
        rintro e w4 ⟨rfl, h5⟩
        exact ⟨rfl, mod_al (H4.out.trans h5), by rw [HXp.out, HX.out]; rfl⟩
      | ok n R1 =>
        have HC := Lib.hid (did_ok HLf.out hx)
        have HX := Lib.hid hx
        clear hx
        go_wp2_with fail
        refine HC.out.mono ?_
        rintro e w4 ⟨v, rfl, ⟨r6, rfl, hrd⟩, h5, h6⟩
        have H7 := Lib.hid hrd
        have HM := Lib.hid (H4.out.trans h6)
        have HZ := Lib.hid (res_block HM.out HI.out)
        have H10 := Lib.hid h5
        clear hrd h5 h6
        go_wp2_with (refine wpList_store_row rfl 26 (.tmp 2) (.tmp 45) rfl w.heap.size (rnC r6).toArray rfl rfl 26 zeroNd HZ.out (node_info r6) rfl H7.out.one ?_)
        refine bodyPost_ret (v := rnV r6) (results_cell_row rfl _ _ w.heap.size _ _ (0, 0) _ rfl (setRow_heap _ _ _ _ _ _ HZ.out) Tryd.underlying26 rfl (node_info r6)) rfl ?_
        refine ⟨res_mod HM.out, ?_⟩
        rw [HXp.out, HX.out]
        exact ⟨rnV r6, rfl, ⟨r6, rfl, node_after H7.out (Nat.lt_of_succ_le HS3.out) (Nat.le_of_lt (Nat.lt_of_succ_le HS3.out))⟩, row_rdr H10.out HI.out⟩
set_option maxRecDepth 100000 in
/-- All parts, however deep. -/
theorem all_ok : ∀ k : Nat, k ≤ 8 → NotOk k
  | 0, _ => not_zero
  | k + 1, h => not_succ h (all_ok k (by omega)) (or_of (and_of (all_ok k (by omega))))
end Go.Proofs.YtaaeooimalglaaaDoor

namespace Go.Proofs.YtaaeooimalglaaaDoor
open Go.RowKit

/-- The library's two errors are there. -/
def ErrsIn (w : World) : Prop := (∃ tp p, w.var? Tryd.prog "strconv.ErrSyntax" = some #[.iface tp p]) ∧ ∃ tp p, w.var? Tryd.prog "strconv.ErrRange" = some #[.iface tp p]
set_option maxRecDepth 100000 in
theorem var_below {P : Program} {w w' : World} {n : String} {cs : Array Value} (h : w.var? P n = some cs) (hb : Below w.heap.size w w') : w'.var? P n = some cs := by
  unfold World.var? at h ⊢
  cases hg : P.globalNamed n with
  | none => rw [hg] at h; cases h
  | some g =>
    rw [hg] at h
    simp only [Option.bind_some] at h ⊢
    have hlt : g < w.heap.size := by
      rcases Nat.lt_or_ge g w.heap.size with h1 | h1
      · exact h1
      · rw [Array.getElem?_eq_none h1] at h; cases h
    rw [hb.block g hlt]
    exact h
set_option maxRecDepth 100000 in
theorem ErrsIn.below {w w' : World} (h : ErrsIn w) (hb : Below w.heap.size w w') : ErrsIn w' := by
  obtain ⟨⟨a, b, h1⟩, ⟨c, d, h2⟩⟩ := h
  exact ⟨⟨a, b, var_below h1 hb⟩, ⟨c, d, var_below h2 hb⟩⟩
set_option maxRecDepth 100000 in
theorem bytes_below (w : World) (e : TypeId) (t : ByteArray) : Below w.heap.size w (Lib.bytesWorld w e t) := by
  exact Lib.bytesWorld_below w e t
def IntV (_ : World) (n : Int) (v : Value) : Prop := v = .int .i64 n
set_option maxRecDepth 100000 in
set_option maxHeartbeats 4000000 in
theorem limit_any {W0 w : World} {rb : Nat} {R : List Nat} (hE : ErrsIn W0) (h : Rdr W0 w rb R 0) :
    Calls Tryd.prog 28 #[.pointer (some ⟨rb, 0, none⟩)] w (Did W0 w rb 0 (limitP R) IntV) := by
  have HE := Lib.hid hE
  have HW := Lib.hid (word_any (k := 8) h (Nat.le_refl _))
  have hokR := h.okr
  have hless := h.less
  obtain ⟨xp, hxp⟩ : ∃ xp, xp = limitP R := ⟨_, rfl⟩
  rw [← hxp]
  have hL : xp = (wordP 8 R).bind fun q r => if limZ q = -1 then .err (failE 8 r) else .ok (limZ q) r := hxp
  have HXp := Lib.hid hL
  clear h hxp hL hE
  cases hx : wordP 8 R with
  | err c =>
    have HC := Lib.hid (did_err HW.out hx)
    have HX := Lib.hid hx
    clear hx hokR hless
    go_enter Tryd.func28, Tryd.ntmps28
    go_wp2_with fail
    refine HC.out.mono ?_
    rintro e w2 ⟨rfl, h2⟩
    exact ⟨rfl, h2, by rw [HXp.out, HX.out]; rfl⟩
  | ok q r =>
    have HC := Lib.hid (did_ok HW.out hx)
    have HX := Lib.hid hx
    obtain ⟨hp1, hp2⟩ := word_parts hx
    have hq : ∀ c ∈ q, okR c ∧ letB c = true := fun c hc => ⟨hokR c (hp2 c hc).1, (hp2 c hc).2⟩
    have hql := word_len hx
    have hsz : (textZ (ints q)).size ≤ 4000 := by have := textZ_few q; omega
    have HQ := Lib.hid hq
    have HSz := Lib.hid hsz
    clear hx hokR hless hp1 hp2 hq hql hsz
    have hfl : ∀ (w3 : World), Rdr W0 w3 rb r 0 → Calls Tryd.prog 30 #[.pointer (some ⟨rb, 0, none⟩)] w3 fun e w' => e = errE (failE 8 r) ∧ Mod (fun k => k = rb) w3 w' := fun w3 h3 => fail_any (k := 8) h3 (Nat.le_refl _)
    have HFl := Lib.hid hfl
    clear hfl
    by_cases hlim : limZ q = -1
    · have HXe : Hid (xp = .err (failE 8 r)) := Lib.hid (by rw [HXp.out, HX.out]; show (if _ then _ else _) = _; rw [if_pos hlim])
      have HLn := Lib.hid (fun n (hn : n ≤ 64) => lim_none (fun c hc => (HQ.out c hc).1) hlim hn)
      have HAw := Lib.hid (fun v => atoi_word (v := v) HQ.out)
      obtain ⟨s, hs⟩ : ∃ s, s = textZ (ints q) := ⟨_, rfl⟩
      have HSt := Lib.hid hs
      rw [← hs] at HLn HAw HSz
      clear hlim hs
      cases ha : Lib.atoiAll s.data.toList with
      | range =>
        go_enter Tryd.func28, Tryd.ntmps28
        go_wp2_with fail
        refine HC.out.mono ?_
        rintro e w2 ⟨v2, rfl, rfl, h3, h4⟩
        rw [← HSt.out]
        obtain ⟨-, ⟨tp, p, hv⟩⟩ := HE.out.below h3.low
        have HA := Lib.hid (Tryd.strconv_Atoi_range_var s (by have := HSz.out; omega) ha tp p w2 hv)
        have H3 := Lib.hid h3
        have H4 := Lib.hid h4
        clear h3 h4 hv ha
        go_wp2_with fail
        refine HA.out.mono ?_
        rintro e w3 ⟨N, rfl, hN, hN2, hb⟩
        have HF := Lib.hid (HFl.out w3 (H3.out.below hb))
        have H5 := Lib.hid (H4.out.trans (below_mod hb))
        clear hb hN hN2
        go_wp2_with fail
        refine HF.out.mono ?_
        rintro e w4 ⟨rfl, h6⟩
        exact ⟨rfl, H5.out.trans h6, by rw [HXe.out]; rfl⟩

      | ok v =>
        have hv0 := HAw.out v ha
        obtain ⟨n, rfl⟩ : ∃ n : Nat, v = (n : Int) := ⟨v.toNat, by omega⟩
        go_enter Tryd.func28, Tryd.ntmps28
        go_wp2_with fail
        refine HC.out.mono ?_
        rintro e w2 ⟨v2, rfl, rfl, h3, h4⟩
        rw [← HSt.out]
        have HA := Lib.hid (Tryd.strconv_Atoi_ok s (by have := HSz.out; omega) (n : Int) ha w2)
        have H3 := Lib.hid h3
        have H4 := Lib.hid h4
        clear h3 h4 ha hv0
        go_wp2_with fail
        refine HA.out.mono ?_
        rintro e w3 ⟨rfl, hw3⟩
        have hb : Below w2.heap.size w2 w3 := by
          rcases hw3 with rfl | ⟨t, rfl⟩
          · exact Below.refl _ _
          · exact bytes_below _ _ _
        have HF := Lib.hid (HFl.out w3 (H3.out.below hb))
        have H5 := Lib.hid (H4.out.trans (below_mod hb))
        clear hb hw3
        by_cases h64 : 64 < n
        · have h64i : (64 : Int) < (n : Int) := by omega
          go_wp2_with fail
          refine HF.out.mono ?_
          rintro e w4 ⟨rfl, h6⟩
          exact ⟨rfl, H5.out.trans h6, by rw [HXe.out]; rfl⟩
        · have h64i : ¬ (64 : Int) < (n : Int) := by omega
          have hne := HLn.out n (by omega)
          have HIt := Lib.hid (Tryd.strconv_Itoa_small n (by omega) w3)
          obtain ⟨t, ht⟩ : ∃ t : ByteArray, t = ⟨(Lib.decDigits n).toArray⟩ := ⟨_, rfl⟩
          rw [← ht] at hne HIt
          have hne2 : (t.toList == s.toList) = false := list_ne hne
          clear ht
          go_wp2_with (go_at_call 36; refine HIt.out.mono ?_; rintro e w4 ⟨rfl, rfl⟩)
          refine HF.out.mono ?_
          rintro e w4 ⟨rfl, h6⟩
          exact ⟨rfl, H5.out.trans h6, by rw [HXe.out]; rfl⟩
      | _ =>
        go_enter Tryd.func28, Tryd.ntmps28
        go_wp2_with fail
        refine HC.out.mono ?_
        rintro e w2 ⟨v2, rfl, rfl, h3, h4⟩
        rw [← HSt.out]
        obtain ⟨⟨tp, p, hv⟩, -⟩ := HE.out.below h3.low
        have HA := Lib.hid (Tryd.strconv_Atoi_syntax_var s (by have := HSz.out; omega) ha tp p w2 hv)
        have H3 := Lib.hid h3
        have H4 := Lib.hid h4
        clear h3 h4 hv ha
        go_wp2_with fail
        refine HA.out.mono ?_
        rintro e w3 ⟨N, rfl, hN, hN2, hb⟩
        have HF := Lib.hid (HFl.out w3 (H3.out.below hb))
        have H5 := Lib.hid (H4.out.trans (below_mod hb))
        clear hb hN hN2
        go_wp2_with fail
        refine HF.out.mono ?_
        rintro e w4 ⟨rfl, h6⟩
        exact ⟨rfl, H5.out.trans h6, by rw [HXe.out]; rfl⟩
    · obtain ⟨n, hn, hl, hqd⟩ := lim_some hlim
      have HXe : Hid (xp = .ok (n : Int) r) := Lib.hid (by rw [HXp.out, HX.out]; show (if _ then _ else _) = _; rw [if_neg hlim, hl])
      have ha := lim_atoi hn
      have htx := lim_text hn
      rw [← hqd] at ha htx
      obtain ⟨s, hs⟩ : ∃ s, s = textZ (ints q) := ⟨_, rfl⟩
      have HSt := Lib.hid hs
      rw [← hs] at ha HSz htx
      have HTx := Lib.hid htx
      clear hlim hs hqd hl htx
      go_enter Tryd.func28, Tryd.ntmps28
      go_wp2_with fail
      refine HC.out.mono ?_
      rintro e w2 ⟨v2, rfl, rfl, h3, h4⟩
      rw [← HSt.out]
      have HA := Lib.hid (Tryd.strconv_Atoi_ok s (by have := HSz.out; omega) (n : Int) ha w2)
      have H3 := Lib.hid h3
      have H4 := Lib.hid h4
      clear h3 h4 ha
      go_wp2_with fail
      refine HA.out.mono ?_
      rintro e w3 ⟨rfl, hw3⟩
      have hb : Below w2.heap.size w2 w3 := by
        rcases hw3 with rfl | ⟨t, rfl⟩
        · exact Below.refl _ _
        · exact bytes_below _ _ _
      have HR := Lib.hid (H3.out.below hb)
      have H5 := Lib.hid (H4.out.trans (below_mod hb))
      have HIt := Lib.hid (Tryd.strconv_Itoa_small n (by omega) w3)
      rw [← HTx.out] at HIt
      clear hb hw3
      have h64i : ¬ (64 : Int) < (n : Int) := by omega
      have heq2 : (s.toList == s.toList) = true := by simp
      go_wp2_with (go_at_call 36; refine HIt.out.mono ?_; rintro e w4 ⟨rfl, rfl⟩)
      go_ret
      refine ⟨H5.out, ?_⟩
      rw [HXe.out]
      exact ⟨_, rfl, rfl, HR.out⟩
set_option maxRecDepth 100000 in
theorem text_ne {q l : List Nat} (hq : ∀ c ∈ q, okR c) (hl : ∀ c ∈ l, c < 128) (h : ¬ q = l) : ¬ textZ (ints q) = textZ (ints l) := by
  intro e
  have e2 : runesOf (textZ (ints q)) = q := by rw [runes_textZ, norm_ints hq]
  rw [e, runes_textZ, norm_ints (low_ok hl)] at e2
  exact h e2.symm
set_option maxRecDepth 100000 in
theorem text_new : textZ (ints [110, 101, 119]) = ⟨#[110, 101, 119]⟩ := by decide +kernel
set_option maxRecDepth 100000 in
theorem text_rank : textZ (ints [114, 97, 110, 107]) = ⟨#[114, 97, 110, 107]⟩ := by decide +kernel
set_option maxRecDepth 100000 in
set_option maxHeartbeats 4000000 in
theorem order_any {W0 w : World} {rb : Nat} {R : List Nat} (h : Rdr W0 w rb R 0) :
    Calls Tryd.prog 29 #[.pointer (some ⟨rb, 0, none⟩)] w (Did W0 w rb 0 (orderP R) IntV) := by
  have HW := Lib.hid (word_any (k := 8) h (Nat.le_refl _))
  have hokR := h.okr
  obtain ⟨xp, hxp⟩ : ∃ xp, xp = orderP R := ⟨_, rfl⟩
  rw [← hxp]
  have hL : xp = (wordP 8 R).bind fun q r => if q = [110, 101, 119] then .ok 1 r else if q = [114, 97, 110, 107] then .ok 0 r else .err (failE 8 r) := hxp
  have HXp := Lib.hid hL
  clear h hxp hL
  cases hx : wordP 8 R with
  | err c =>
    have HC := Lib.hid (did_err HW.out hx)
    have HX := Lib.hid hx
    clear hx hokR
    go_enter Tryd.func29, Tryd.ntmps29
    go_wp2_with fail
    refine HC.out.mono ?_
    rintro e w2 ⟨rfl, h2⟩
    exact ⟨rfl, h2, by rw [HXp.out, HX.out]; rfl⟩
  | ok q r =>
    have HC := Lib.hid (did_ok HW.out hx)
    have HX := Lib.hid hx
    have hq : ∀ c ∈ q, okR c := fun c hc => hokR c ((word_parts hx).2 c hc).1
    have hfl : ∀ (w3 : World), Rdr W0 w3 rb r 0 → Calls Tryd.prog 30 #[.pointer (some ⟨rb, 0, none⟩)] w3 fun e w' => e = errE (failE 8 r) ∧ Mod (fun k => k = rb) w3 w' := fun w3 h3 => fail_any (k := 8) h3 (Nat.le_refl _)
    have HFl := Lib.hid hfl
    clear hfl hx hokR
    by_cases h1 : q = [110, 101, 119]
    · have HXe : Hid (xp = .ok 1 r) := Lib.hid (by rw [HXp.out, HX.out]; show (if _ then _ else _) = _; rw [if_pos h1])
      subst h1
      clear hq
      go_enter Tryd.func29, Tryd.ntmps29
      go_wp2_with fail
      refine HC.out.mono ?_
      rintro e w2 ⟨v2, rfl, hv2, h3, h4⟩
      obtain rfl : v2 = .string ⟨#[110, 101, 119]⟩ := hv2.trans (by rw [text_new])
      have H3 := Lib.hid h3
      have H4 := Lib.hid h4
      clear h3 h4 hv2
      go_wp2_with fail
      try rw [Exit.noGoto_ret]
      go_ret
      refine ⟨H4.out, ?_⟩
      rw [HXe.out]
      exact ⟨_, rfl, rfl, H3.out⟩
    · by_cases h2 : q = [114, 97, 110, 107]
      · have HXe : Hid (xp = .ok 0 r) := Lib.hid (by rw [HXp.out, HX.out]; show (if _ then _ else _) = _; rw [if_neg h1, if_pos h2])
        subst h2
        clear hq h1
        go_enter Tryd.func29, Tryd.ntmps29
        go_wp2_with fail
        refine HC.out.mono ?_
        rintro e w2 ⟨v2, rfl, hv2, h3, h4⟩
        obtain rfl : v2 = .string ⟨#[114, 97, 110, 107]⟩ := hv2.trans (by rw [text_rank])
        have H3 := Lib.hid h3
        have H4 := Lib.hid h4
        clear h3 h4 hv2
        go_wp2_with fail
        try rw [Exit.noGoto_ret]
        go_ret
        refine ⟨H4.out, ?_⟩
        rw [HXe.out]
        exact ⟨_, rfl, rfl, H3.out⟩
      · have HXe : Hid (xp = .err (failE 8 r)) := Lib.hid (by rw [HXp.out, HX.out]; show (if _ then _ else _) = _; rw [if_neg h1, if_neg h2])
        have n1 := text_ne hq (by decide) h1
        have n2 := text_ne hq (by decide) h2
        rw [text_new] at n1
        rw [text_rank] at n2
        obtain ⟨s, hs⟩ : ∃ s, s = textZ (ints q) := ⟨_, rfl⟩
        have HSt := Lib.hid hs
        rw [← hs] at n1 n2
        have c1 : (s.toList == [110, 101, 119]) = false := by rw [← show (⟨#[110, 101, 119]⟩ : ByteArray).toList = [110, 101, 119] by decide +kernel]; exact list_ne n1
        have c2 : (s.toList == [114, 97, 110, 107]) = false := by rw [← show (⟨#[114, 97, 110, 107]⟩ : ByteArray).toList = [114, 97, 110, 107] by decide +kernel]; exact list_ne n2
        clear hs h1 h2 hq n1 n2
        go_enter Tryd.func29, Tryd.ntmps29
        go_wp2_with fail
        refine HC.out.mono ?_
        rintro e w2 ⟨v2, rfl, rfl, h3, h4⟩
        rw [← HSt.out]
        have HF := Lib.hid (HFl.out w2 h3)
        have H4 := Lib.hid h4
        clear h3 h4
        go_wp2_with fail
        refine HF.out.mono ?_
        rintro e w4 ⟨rfl, h6⟩
        exact ⟨rfl, H4.out.trans h6, by rw [HXe.out]; rfl⟩
end Go.Proofs.YtaaeooimalglaaaDoor

namespace Go.Proofs.YtaaeooimalglaaaDoor
open Go.RowKit

def qryC (r : Rn) (lim ord : Int) : List Value := rnC r ++ [.int .i64 lim, .int .i64 ord]
def QueryV (S : Nat → Prop) (w : World) (x : Nd × Opt) (v : Value) : Prop := ∃ r, v = .agg (qryC r x.2.lim x.2.ord).toArray ∧ RdN w S x.1 r
set_option maxRecDepth 100000 in
theorem qry_info (r : Rn) (lim ord : Int) : (Tryd.prog.info? 28).map (·.size) = some (qryC r lim ord).toArray.size := by kernel_rfl
set_option maxRecDepth 100000 in
theorem qry_one {k f lim ord : Int} {ta ka : Option Addr} {tn tc kn kc : Nat} : (qryC (k, f, .slice ta tn tc, .slice ka kn kc) lim ord).toArray.all (·.oneCell') = true := by simp [qryC, rnC, Value.oneCell']
def zeroQ : Array Value := #[.int .i64 0, .int .u8 0, .slice none 0 0, .slice none 0 0, .int .i64 0, .int .i64 0]
/-- A query on its way. -/
structure OnWay (W0 w w1 wr : World) (rb qb : Nat) (R : List Nat) (r : Rn) (o : Opt) : Prop where
  box : wr.heap[qb]? = some (.cells (qryC r o.lim o.ord).toArray 28 (0, 0))
  rdr : Rdr W0 wr rb R 0
  mod : Mod (fun k => k = rb ∨ k = qb) w1 wr
section
variable {W0 w w1 wr w2 : World} {rb qb : Nat} {R R1 : List Nat} {r : Rn} {o o' : Opt}
set_option maxRecDepth 100000 in
theorem OnWay.on (h : OnWay W0 w w1 wr rb qb R r o) (hne : qb ≠ rb) (hm : Mod (fun k => k = rb) wr w2) (hr : Rdr W0 w2 rb R1 0) : OnWay W0 w w1 w2 rb qb R1 r o :=
  ⟨(hm.block qb (lt_of_heap h.box) hne).trans h.box, hr, h.mod.trans (hm.mono fun _ _ hk => .inl hk)⟩
set_option maxRecDepth 100000 in
theorem OnWay.set (h : OnWay W0 w w1 wr rb qb R r o) (hlt : rb < qb) (j : Nat) (v : Value) (hs : (qryC r o.lim o.ord).toArray.setIfInBounds j v = (qryC r o'.lim o'.ord).toArray) : OnWay W0 w w1 (wr.setCell ⟨qb, j, none⟩ v) rb qb R r o' :=
  ⟨by rw [← hs]; exact heap_setCell_same _ qb j _ _ v h.box, h.rdr.high (Below.setCell (Below.refl _ _) hlt _), Mod.setCell (S := fun k => k = rb ∨ k = qb) h.mod (.inr (.inr rfl)) _⟩
end
def OnRel (W0 w w1 : World) (rb qb : Nat) (r : Rn) (xp : PR Opt) (v4 v5 : Value) (wr : World) : Prop := ∃ o R', v4 = .bool o.limd ∧ v5 = .bool o.ordd ∧ OnWay W0 w w1 wr rb qb R' r o ∧ xp = optR o R'
set_option maxRecDepth 100000 in
set_option maxHeartbeats 8000000 in
theorem query_any {W0 w : World} {rb : Nat} {R : List Nat} (hE : ErrsIn W0) (h : Rdr W0 w rb R 0) :
    Calls Tryd.prog 18 #[.pointer (some ⟨rb, 0, none⟩)] w (Did W0 w rb 0 (parseR R) (QueryV (fromB w.heap.size))) := by
  have HE := Lib.hid hE
  have hrb := h.lt
  have H1 := Lib.hid (or_of (and_of (all_ok 8 (Nat.le_refl _))) W0 _ rb R (h.below (below_one (A := .cells zeroQ 28))))
  rw [show (8 : Int) - ((8 : Nat) : Int) = 0 by decide] at H1
  obtain ⟨xp, hxp⟩ : ∃ xp, xp = parseR R := ⟨_, rfl⟩
  rw [← hxp]
  rw [parseR_eq] at hxp
  have HXp := Lib.hid hxp
  have HI := Lib.hid hrb
  have hZ : zeroQ = #[.int .i64 0, .int .u8 0, .slice none 0 0, .slice none 0 0, .int .i64 0, .int .i64 0] := rfl
  clear h hrb hxp hE
  cases hx : orP (andP (notP 8)) R with
  | err c =>
    have H2 := Lib.hid (did_err H1.out hx)
    have HX := Lib.hid hx
    clear hx
    go_enter Tryd.func18, Tryd.ntmps18
    go_wp2_with fail
    refine H2.out.mono ?_
    rintro e w2 ⟨rfl, h2⟩
    exact ⟨rfl, ((Mod.refl _ _).alloc _).trans h2, by rw [HXp.out, HX.out]; rfl⟩
  | ok n R1 =>
    have H2 := Lib.hid (did_ok H1.out hx)
    have HX := Lib.hid hx
    clear hx
    go_enter Tryd.func18, Tryd.ntmps18
    go_wp2_with fail
    refine H2.out.mono ?_
    rintro e w2 ⟨v, rfl, ⟨⟨kd, fd, tv, kv⟩, rfl, hrd⟩, h3, h4⟩
    obtain ⟨ta, tn, tc, ka, kn, kc, rfl, rfl⟩ := hrd.slices
    rw [show rnV (kd, fd, .slice ta tn tc, .slice ka kn kc) = .agg #[.int .i64 kd, .int .u8 fd, .slice ta tn tc, .slice ka kn kc] from rfl]
    have hz1 : (w.alloc (.cells zeroQ 28)).heap.size = w.heap.size + 1 := by simp
    have hs2 : w.heap.size + 1 ≤ w2.heap.size := by have := h4.size; rw [hz1] at this; exact this
    rw [hz1] at hrd
    have hres := (h4.block w.heap.size (by simp) (by have := HI.out; omega)).trans (heap_alloc_new w _)
    have HRd := Lib.hid hrd
    have H3 := Lib.hid h3
    have H4 := Lib.hid h4
    have HS2 := Lib.hid hs2
    have HRes := Lib.hid hres
    clear hrd h3 h4 hz1 hs2 hres H1 H2
    go_wp2_with fail
    have hbx := heap_alloc_new w2 (.cells #[.int .i64 kd, .int .u8 fd, .slice ta tn tc, .slice ka kn kc, .int .i64 10, .int .i64 0] 28)
    have hal := below_one (w := w2) (A := .cells #[.int .i64 kd, .int .u8 fd, .slice ta tn tc, .slice ka kn kc, .int .i64 10, .int .i64 0] 28)
    have hrd1 := (HRd.out.mono (S' := fun b => w.heap.size + 1 ≤ b ∧ b < w2.heap.size) fun b h1 h2 => ⟨h2, h1⟩).after hal
    have hres1 := blk_low HRes.out hal
    have hr1 := H3.out.below hal
    have hm1 := H4.out.trans (below_mod (S := fun k => k = rb) hal)
    generalize w2.alloc (.cells #[.int .i64 kd, .int .u8 fd, .slice ta tn tc, .slice ka kn kc, .int .i64 10, .int .i64 0] 28) = w1 at hbx hrd1 hres1 hr1 hm1 ⊢
    have HO0 := Lib.hid (show OnWay W0 w w1 w1 rb w2.heap.size R1 (kd, fd, .slice ta tn tc, .slice ka kn kc) ⟨10, false, 0, false⟩ from ⟨hbx, hr1, Mod.refl _ _⟩)
    have HRd1 := Lib.hid hrd1
    have HRes1 := Lib.hid hres1
    have HM1 := Lib.hid hm1
    have HQlt := Lib.hid (show rb < w2.heap.size by have := HI.out; have := HS2.out; omega)
    have HQ := Lib.hid (show w2.heap.size ≠ rb by have := HQlt.out; omega)
    have HTop := Lib.hid (fun wz (hz : Mod (fun k => k = rb ∨ k = w2.heap.size) w1 wz) => (show Mod (fun k => k = rb) w wz from by
      have h5 := ((Mod.refl (fun k => k = rb) w).alloc (.cells zeroQ 28)).trans HM1.out
      refine ⟨hz.os.trans h5.os, hz.tape.trans h5.tape, hz.output.trans h5.output, Nat.le_trans h5.size hz.size, fun k hk hkr => ?_⟩
      have := HS2.out
      exact (hz.block k (Nat.lt_of_lt_of_le hk h5.size) (by rintro (e | e) <;> omega)).trans (h5.block k hk hkr)))
    obtain ⟨po, hpo⟩ : ∃ po, po = optR ⟨10, false, 0, false⟩ R1 := ⟨_, rfl⟩
    have HPo := Lib.hid hpo
    have HXq := Lib.hid (show xp = po.map fun o => (n, o) from by rw [HXp.out, HX.out, hpo]; rfl)
    clear hbx hal hrd1 hres1 hr1 hm1 H3 H4 HRd HRes hpo
    go_loopw [4, 5] (fun v4 v5 wr => OnRel W0 w w1 rb w2.heap.size (kd, fd, .slice ta tn tc, .slice ka kn kc) po v4 v5 wr) (fun _ _ wr => restLen wr rb)
    case atStart => exact ⟨_, R1, rfl, rfl, HO0.out, HPo.out⟩
    case round =>
      obtain ⟨⟨ol, od, oo, oe⟩, R', rfl, rfl, hon, hpr⟩ := hrel
      have HMr := Lib.hid hon.rdr.rest
      have HN := Lib.hid (next_any hon.rdr)
      have HOn := Lib.hid hon
      rw [optR_step] at hpr
      obtain ⟨hd, hhd⟩ : ∃ hd, hd = headZ (skipB R') := ⟨_, rfl⟩
      rw [← hhd] at HN hpr
      have HHd := Lib.hid hhd
      simp only at hpr
      clear hon hhd
      by_cases c1 : hd = 35 ∧ od = false
      · rw [if_pos c1] at hpr
        have HXr := Lib.hid hpr
        obtain ⟨rfl, rfl⟩ := c1
        clear hpr
        go_wp2_with fail
        refine HN.out.mono ?_
        rintro e w3 ⟨rfl, h3, h4⟩
        have HPs := Lib.hid (pass_any h3 (head_len (HHd.out.symm.trans rfl) (by omega)))
        have HO3 := Lib.hid (HOn.out.on HQ.out h4 h3)
        clear h3 h4 HN
        go_wp2_with fail
        refine HPs.out.mono ?_
        rintro e w4 ⟨rfl, h5, h6⟩
        have HC := Lib.hid (limit_any HE.out h5)
        have HO4 := Lib.hid (HO3.out.on HQ.out h6 h5)
        clear h5 h6 HPs
        cases hx2 : limitP ((skipB R').drop 1) with
        | err c =>
          have HC2 := Lib.hid (did_err HC.out hx2)
          have HX2 := Lib.hid hx2
          clear hx2
          go_wp2_with fail
          refine HC2.out.mono ?_
          rintro e w5 ⟨rfl, h7⟩
          exact ⟨rfl, HTop.out _ (HO4.out.mod.trans (h7.mono fun _ _ hk => .inl hk)), by rw [HXq.out, HXr.out, HX2.out]; rfl⟩
        | ok m R2 =>
          have HC2 := Lib.hid (did_ok HC.out hx2)
          have HX2 := Lib.hid hx2
          have HLs := Lib.hid (limit_less _ _ _ hx2)
          clear hx2
          go_wp2_with fail
          refine HC2.out.mono ?_
          rintro e w5 ⟨v5, rfl, rfl, h7, h8⟩
          have hon := HO4.out.on HQ.out h8 h7
          have q4 := cell_at hon.box 4
          have f4 := free_at hon.box 4
          have hst := hon.set (o' := ⟨m, true, oo, oe⟩) HQlt.out 4 (.int .i64 m) rfl
          have hre : restLen (w5.setCell ⟨w2.heap.size, 4, none⟩ (.int .i64 m)) rb = R2.length := hst.rdr.rest
          have HSt := Lib.hid hst
          have HRe := Lib.hid hre
          clear h7 h8 hon hst hre
          go_wp2_with fail
          go_roundw
          case rel => exact ⟨_, R2, rfl, rfl, HSt.out, by rw [HXr.out, HX2.out]; rfl⟩
          case measure => simp only [HRe.out, HMr.out]; have := HLs.out; have := skipB_le R'; have := List.length_drop (i := 1) (l := skipB R'); omega
      · rw [if_neg c1] at hpr
        by_cases c2 : hd = 64 ∧ oe = false
        · rw [if_pos c2] at hpr
          have HXr := Lib.hid hpr
          obtain ⟨rfl, rfl⟩ := c2
          clear hpr c1
          go_wp2_with fail
          refine HN.out.mono ?_
          rintro e w3 ⟨rfl, h3, h4⟩
          have HPs := Lib.hid (pass_any h3 (head_len (HHd.out.symm.trans rfl) (by omega)))
          have HO3 := Lib.hid (HOn.out.on HQ.out h4 h3)
          clear h3 h4 HN
          go_wp2_with fail
          refine HPs.out.mono ?_
          rintro e w4 ⟨rfl, h5, h6⟩
          have HC := Lib.hid (order_any h5)
          have HO4 := Lib.hid (HO3.out.on HQ.out h6 h5)
          clear h5 h6 HPs
          cases hx2 : orderP ((skipB R').drop 1) with
          | err c =>
            have HC2 := Lib.hid (did_err HC.out hx2)
            have HX2 := Lib.hid hx2
            clear hx2
            go_wp2_with fail
            refine HC2.out.mono ?_
            rintro e w5 ⟨rfl, h7⟩
            exact ⟨rfl, HTop.out _ (HO4.out.mod.trans (h7.mono fun _ _ hk => .inl hk)), by rw [HXq.out, HXr.out, HX2.out]; rfl⟩
          | ok m R2 =>
            have HC2 := Lib.hid (did_ok HC.out hx2)
            have HX2 := Lib.hid hx2
            have HLs := Lib.hid (order_less _ _ _ hx2)
            clear hx2
            go_wp2_with fail
            refine HC2.out.mono ?_
            rintro e w5 ⟨v5, rfl, rfl, h7, h8⟩
            have hon := HO4.out.on HQ.out h8 h7
            have q4 := cell_at hon.box 5
            have f4 := free_at hon.box 5
            have hst := hon.set (o' := ⟨ol, od, m, true⟩) HQlt.out 5 (.int .i64 m) rfl
            have hre : restLen (w5.setCell ⟨w2.heap.size, 5, none⟩ (.int .i64 m)) rb = R2.length := hst.rdr.rest
            have HSt := Lib.hid hst
            have HRe := Lib.hid hre
            clear h7 h8 hon hst hre
            go_wp2_with fail
            go_roundw
            case rel => exact ⟨_, R2, rfl, rfl, HSt.out, by rw [HXr.out, HX2.out]; rfl⟩
            case measure => simp only [HRe.out, HMr.out]; have := HLs.out; have := skipB_le R'; have := List.length_drop (i := 1) (l := skipB R'); omega
        · rw [if_neg c2] at hpr
          by_cases c3 : hd = -1
          · rw [if_pos c3] at hpr
            have HXr := Lib.hid hpr
            subst c3
            clear hpr c1 c2
            go_wp2_with fail
            refine HN.out.mono ?_
            rintro e w3 ⟨rfl, h3, h4⟩
            have HO3 := Lib.hid (HOn.out.on HQ.out h4 h3)
            have HSk := Lib.hid (show skipB R' = [] from by
              cases hc : skipB R' with
              | nil => rfl
              | cons c r => have := HHd.out; rw [hc] at this; simp only [headZ] at this; omega)
            clear h3 h4 HN
            have hbx := HO3.out.box
            have hrs := (HO3.out.mod.block w.heap.size (lt_of_heap HRes1.out) (by have := HI.out; have := HS2.out; rintro (e | e) <;> omega)).trans HRes1.out
            have HBx := Lib.hid hbx
            have HRs := Lib.hid hrs
            clear hbx hrs
            go_wp2_with (first
              | (refine wpList_load_row rfl 28 (.tmp 3) rfl w2.heap.size rfl 28 (qryC (kd, fd, .slice ta tn tc, .slice ka kn kc) ol oo).toArray (0, 0) _ HBx.out Tryd.underlying28 rfl (qry_info (kd, fd, .slice ta tn tc, .slice ka kn kc) ol oo) ?_)
              | (refine wpList_store_row rfl 28 (.tmp 2) (.tmp 41) rfl w.heap.size (qryC (kd, fd, .slice ta tn tc, .slice ka kn kc) ol oo).toArray rfl rfl 28 zeroQ HRs.out (qry_info (kd, fd, .slice ta tn tc, .slice ka kn kc) ol oo) rfl qry_one ?_)
              | fail)
            try rw [Exit.noGoto_ret]
            refine bodyPost_ret (v := .agg (qryC (kd, fd, .slice ta tn tc, .slice ka kn kc) ol oo).toArray) (results_cell_row rfl _ _ w.heap.size _ _ (0, 0) _ rfl (setRow_heap _ _ _ _ _ _ HRs.out) Tryd.underlying28 rfl (qry_info (kd, fd, .slice ta tn tc, .slice ka kn kc) ol oo)) rfl ?_
            refine ⟨mod_low (HTop.out _ HO3.out.mod) (below_row (Below.refl _ _) (Nat.le_refl w.heap.size) _) (Nat.le_refl _), ?_⟩
            rw [HXq.out, HXr.out]
            have hrr := (HO3.out.rdr.high (below_row (Below.refl _ _) HI.out (qryC (kd, fd, .slice ta tn tc, .slice ka kn kc) ol oo).toArray))
            rw [HSk.out] at hrr
            have hnd : RdN w3 (fun b => w.heap.size + 1 ≤ b ∧ b < w2.heap.size) n (kd, fd, .slice ta tn tc, .slice ka kn kc) := HRd1.out.keep fun b hb hb2 => HO3.out.mod.block b hb2 (by have := HI.out; rintro (e | e) <;> omega)
            exact ⟨_, rfl, ⟨_, rfl, (hnd.keep fun b hb _ => setRow_other _ _ _ _ (by omega)).mono fun b _ hb => by unfold fromB; omega⟩, hrr⟩
          · rw [if_neg c3] at hpr
            have HXr := Lib.hid hpr
            clear hpr
            by_cases d1 : hd = 35
            · have d2 : od = true := by cases od with | true => rfl | false => exact absurd ⟨d1, rfl⟩ c1
              subst d1 d2
              clear c1 c2 c3
              go_wp2_with fail
              refine HN.out.mono ?_
              rintro e w3 ⟨rfl, h3, h4⟩
              have HFl := Lib.hid (fail_any (k := 8) (show Rdr W0 w3 rb (skipB R') (8 - ((8 : Nat) : Int)) from h3) (Nat.le_refl _))
              have H4 := Lib.hid (HOn.out.mod.trans (h4.mono fun _ _ hk => .inl hk))
              clear h3 h4 HN
              go_wp2_with fail
              refine HFl.out.mono ?_
              rintro e w5 ⟨rfl, h6⟩
              exact ⟨rfl, HTop.out _ (H4.out.trans (h6.mono fun _ _ hk => .inl hk)), by rw [HXq.out, HXr.out]; rfl⟩
            · by_cases d3 : hd = 64
              · have d4 : oe = true := by cases oe with | true => rfl | false => exact absurd ⟨d3, rfl⟩ c2
                subst d3 d4
                clear c1 c2 c3 d1
                go_wp2_with fail
                refine HN.out.mono ?_
                rintro e w3 ⟨rfl, h3, h4⟩
                have HFl := Lib.hid (fail_any (k := 8) (show Rdr W0 w3 rb (skipB R') (8 - ((8 : Nat) : Int)) from h3) (Nat.le_refl _))
                have H4 := Lib.hid (HOn.out.mod.trans (h4.mono fun _ _ hk => .inl hk))
                clear h3 h4 HN
                go_wp2_with fail
                refine HFl.out.mono ?_
                rintro e w5 ⟨rfl, h6⟩
                exact ⟨rfl, HTop.out _ (H4.out.trans (h6.mono fun _ _ hk => .inl hk)), by rw [HXq.out, HXr.out]; rfl⟩
              · clear c1 c2
                go_wp2_with fail
                refine HN.out.mono ?_
                rintro e w3 ⟨rfl, h3, h4⟩
                have HFl := Lib.hid (fail_any (k := 8) (show Rdr W0 w3 rb (skipB R') (8 - ((8 : Nat) : Int)) from h3) (Nat.le_refl _))
                have H4 := Lib.hid (HOn.out.mod.trans (h4.mono fun _ _ hk => .inl hk))
                clear h3 h4 HN
                go_wp2_with fail
                refine HFl.out.mono ?_
                rintro e w5 ⟨rfl, h6⟩
                exact ⟨rfl, HTop.out _ (H4.out.trans (h6.mono fun _ _ hk => .inl hk)), by rw [HXq.out, HXr.out]; rfl⟩
end Go.Proofs.YtaaeooimalglaaaDoor

namespace Go.Proofs.YtaaeooimalglaaaDoor
open Go.RowKit

set_option maxRecDepth 100000 in
theorem assert_err (v : Value) (w : World) : (Instr.typeAssert (.iface 29 v) 20 29 true).run Tryd.prog w = .ok (.tuple #[v, .bool true]) w := by
  unfold Instr.typeAssert
  simp only [Sem.run_bind, run_underlying Tryd.underlying29 w]
  rfl
set_option maxRecDepth 100000 in
set_option maxHeartbeats 2000000 in
theorem catch_panicking (eb : Nat) (c : Int) (older : List PanicEntry) (w : World) (v : Value) (hc : w.cell? ⟨eb, 0, none⟩ = some v) (hz : w.frozen? ⟨eb, 0, none⟩ = false) :
    CallsD Tryd.prog 16 #[.pointer (some ⟨eb, 0, none⟩)] (.panicking ({ v := .iface 29 (.int .i64 c), recovered := false } :: older)) w fun e u' w' =>
      e = .returned (.tuple #[]) ∧ u' = .panicking ({ v := .iface 29 (.int .i64 c), recovered := true } :: older) ∧ w' = w.setCell ⟨eb, 0, none⟩ (.int .i64 c) := by
  refine callsD_of_wpS Tryd.func16 rfl fun c₀ cs hu => ?_
  apply wpS_seq
  apply wpS_region
  simp [wpOpsS, go_sem, recoverD, hu, Tryd.ntmps16, Exit.thenS]
  refine wpS_of_wp ?_
  rw [show (#[.pointer (some ⟨eb, 0, none⟩)] ++ ((Array.replicate 15 undef).setIfInBounds 3 (Value.iface 29 (.int .i64 c))).setIfInBounds 0 (Value.iface 29 (.int .i64 c)) : Array Value) = #[.pointer (some ⟨eb, 0, none⟩), .iface 29 (.int .i64 c), undef, undef, .iface 29 (.int .i64 c), undef, undef, undef, undef, undef, undef, undef, undef, undef, undef, undef] from rfl]
  have hta := assert_err
  go_wp2_with fail
  simp [bodyPostS, results, Tryd.results16, go_sem]
set_option maxRecDepth 100000 in
set_option maxHeartbeats 2000000 in
theorem catch_idle (eb : Nat) (w : World) :
    CallsD Tryd.prog 16 #[.pointer (some ⟨eb, 0, none⟩)] .returning w fun e u' w' => e = .returned (.tuple #[]) ∧ u' = .returning ∧ w' = w := by
  refine callsD_of_wpS Tryd.func16 rfl fun c₀ cs hu => ?_
  apply wpS_seq
  apply wpS_region
  simp [wpOpsS, go_sem, recoverD, hu, Tryd.ntmps16, Exit.thenS]
  refine wpS_of_wp ?_
  rw [show (#[.pointer (some ⟨eb, 0, none⟩)] ++ ((Array.replicate 15 undef).setIfInBounds 3 Value.nilIface).setIfInBounds 0 Value.nilIface : Array Value) = #[.pointer (some ⟨eb, 0, none⟩), .nilIface, undef, undef, .nilIface, undef, undef, undef, undef, undef, undef, undef, undef, undef, undef, undef] from rfl]
  go_wp2_with fail
  cases c₀
  simp_all [bodyPostS, results, Tryd.results16, go_sem]
set_option maxRecDepth 100000 in
theorem node_zero (w : World) (S : Nat → Prop) : RdN w S (.mk 0 0 [] []) (0, 0, .slice none 0 0, .slice none 0 0) :=
  RdN.mk (ts := []) (ks := []) (ta := none) (tc := 0) (ka := none) (kc := 0) (rs := []) (by decide) (by decide) (fun j x hj => by simp at hj) (Nat.le_refl _) (by decide) (fun a ha _ => by cases ha) (fun j r hj => by simp at hj) (Nat.le_refl _) (by decide) (fun a ha _ => by cases ha) rfl (fun j x r hj _ => by simp at hj)
/-- What Parse answers: a node, a limit, an order, an error. -/
def zeroNode : Nd := .mk 0 0 [] []
def parseX (s : ByteArray) : (Nd × Opt) × Int :=
  if 256 < s.size then ((zeroNode, ⟨0, false, 0, false⟩), 4)
  else match parseR (runesOf s) with
    | .ok x _ => (x, 0)
    | .err c => ((zeroNode, ⟨0, false, 0, false⟩), c)
def ParseD (W : World) (y : (Nd × Opt) × Int) (e : Ending) (w' : World) : Prop := ∃ v, e = .returned (.tuple #[v, .int .i64 y.2]) ∧ QueryV (fromB W.heap.size) w' y.1 v ∧ Below W.heap.size W w'
set_option maxRecDepth 100000 in
theorem results_cells {P : Program} {fn : Func} {p q : Tmp} {ty ty2 : TypeId} (h : fn.results = #[.cell p ty, .cell q ty2]) (tmps : Array Value) (w : World) (g g2 : Nat) (t : TypeId) (cs : Array Value) (fr : Nat × Nat) (d : TypeDesc) (v : Value)
    (hp : tmps.getD p undef = .pointer (some ⟨g, 0, none⟩)) (hq : tmps.getD q undef = .pointer (some ⟨g2, 0, none⟩)) (hg : w.heap[g]? = some (.cells cs t fr)) (hg2 : (loadVar ty2 ⟨g2, 0, none⟩).run P w = .ok v w)
    (hu : P.underlying ty = some d) (hd : (match d with | .struct _ | .array _ _ => true | _ => false) = true) (hi : (P.info? ty).map (·.size) = some cs.size) :
    (results fn tmps).run P w = .ok (.tuple #[.agg cs, v]) w := by
  have hp' : tmps[p]?.getD undef = .pointer (some ⟨g, 0, none⟩) := by simpa using hp
  have hq' : tmps[q]?.getD undef = .pointer (some ⟨g2, 0, none⟩) := by simpa using hq
  simp [results, h, hp', hq', asAddr, run_loadVar_row w g t ty cs fr d hg hu hd hi, hg2]
set_option maxRecDepth 100000 in
theorem load_err {w : World} {g : Nat} {v : Value} (h : w.cell? ⟨g, 0, none⟩ = some v) : (loadVar 29 ⟨g, 0, none⟩).run Tryd.prog w = .ok v w := by
  unfold loadVar
  simp [Sem.run_bind, Tryd.isAgg29, go_sem, h]
set_option maxRecDepth 100000 in
set_option maxHeartbeats 4000000 in
theorem parse_any (W : World) (s : ByteArray) (hT : TabsIn W) (hE : ErrsIn W) (hs : s.size ≤ 1000000) :
    Calls Tryd.prog 7 #[.string s] W fun e w' => ParseD W (parseX s) e w' := by
  have hmf : ∀ (fn : Fn) (first cap : Array Value) (w : World), (Instr.makeFunc fn first cap).run Tryd.prog w = .ok (.func fn first cap) w := fun _ _ _ _ => rfl
  have HT := Lib.hid hT
  have HE := Lib.hid hE
  obtain ⟨y, hy⟩ : ∃ y, y = parseX s := ⟨_, rfl⟩
  rw [← hy]
  have hZ : zeroQ = #[.int .i64 0, .int .u8 0, .slice none 0 0, .slice none 0 0, .int .i64 0, .int .i64 0] := rfl
  by_cases hl : 256 < s.size
  · have HY : Hid (y = ((zeroNode, ⟨0, false, 0, false⟩), 4)) := Lib.hid (by rw [hy]; unfold parseX; rw [if_pos hl])
    have hli : (256 : Int) < (s.size : Int) := by omega
    clear hT hE hs hy
    go_enter_defers Tryd.func7, Tryd.ntmps7
    go_wp2_with fail
    refine ⟨_, results_cells rfl _ _ W.heap.size (W.heap.size + 1) _ _ (0, 0) _ (.int .i64 4) rfl rfl (heap2_0 W _ _) (load_err (cell_at (heap2_1 W _ _) 0)) Tryd.underlying28 rfl (qry_info (0, 0, .slice none 0 0, .slice none 0 0) 0 0), ?_⟩
    rw [HY.out]
    exact ⟨_, rfl, ⟨(0, 0, .slice none 0 0, .slice none 0 0), rfl, node_zero _ _⟩, below_al2⟩
  · have hsl : s.size ≤ 256 := by omega
    have hli : ¬ (256 : Int) < (s.size : Int) := by omega
    have HRn := Lib.hid (fun w => kept.runes w s hs)
    have hrl := (runesOf_many s).1
    have hok := runesOf_ok s
    have HL := Lib.hid (And.intro hrl (And.intro hok hsl))
    have HY : Hid (y = match parseR (runesOf s) with
      | .ok x _ => (x, 0)
      | .err c => ((zeroNode, ⟨0, false, 0, false⟩), c)) := Lib.hid (by rw [hy]; unfold parseX; rw [if_neg hl])
    clear hT hE hs hy hrl hok hsl
    go_enter_defers Tryd.func7, Tryd.ntmps7
    go_wp2_with fail
    refine (HRn.out _).mono ?_
    rintro e w3 ⟨oa, c, rfl, hc, hm, hr, hb3, -⟩
    rw [ints_length] at hc ⊢
    have hB0 : Below W.heap.size W ((W.alloc (.cells zeroQ 28)).alloc (.cells #[.int .i64 0] 29)) := below_al2
    have hlow : Below W.heap.size W w3 := hB0.trans (hb3.mono hB0.size)
    have hs3 : W.heap.size + 2 ≤ w3.heap.size := by have := hb3.size; simp at this; omega
    have hQ := blk_low (heap2_0 W (.cells zeroQ 28) (.cells #[.int .i64 0] 29)) hb3
    have hR := blk_low (heap2_1 W (.cells zeroQ 28) (.cells #[.int .i64 0] 29)) hb3
    have hal := below_one (w := w3) (A := .cells #[.slice oa (runesOf s).length c, .int .i64 0] 51)
    have hrd : Rdr W (w3.alloc (.cells #[.slice oa (runesOf s).length c, .int .i64 0] 51)) w3.heap.size (runesOf s) 0 := by
      obtain ⟨g1, g2, g3⟩ := HL.out
      refine ⟨HT.out, hlow.trans (hal.mono hlow.size), hlow.size, g2, by omega, by omega, oa, c, heap_alloc_new w3 _, hc, hm, hr.below hal, fun a ha hne => ?_⟩
      obtain ⟨x, hx⟩ : ∃ x, (runesOf s)[0]? = some x := by cases hq : runesOf s with | nil => exact absurd hq hne | cons y l => exact ⟨y, rfl⟩
      obtain ⟨ad, k1, k2⟩ := hr 0 _ (ints_get hx)
      rw [ha] at k1
      injection k1 with k1
      subst k1
      have := cell_lt k2
      have e : (a.add 0).block = a.block := by unfold Addr.add; split <;> rfl
      omega
    have HQa := Lib.hid (query_any HE.out hrd)
    have HQ := Lib.hid (blk_low hQ hal)
    have HR := Lib.hid (blk_low hR hal)
    have HLow := Lib.hid (hlow.trans (hal.mono hlow.size))
    have HS := Lib.hid (And.intro hs3 (show (w3.alloc (.cells #[.slice oa (runesOf s).length c, .int .i64 0] 51)).heap.size = w3.heap.size + 1 from by simp))
    clear hc hm hr hb3 hB0 hlow hs3 hQ hR hal hrd HRn
    go_upto_region 5 with fail
    generalize w3.alloc (.cells #[.slice oa (runesOf s).length c, .int .i64 0] 51) = w4 at HQa HQ HR HLow HS ⊢
    cases hx : parseR (runesOf s) with
    | err c2 =>
      have HC := Lib.hid (did_err HQa.out hx)
      have HYe : Hid (y = ((zeroNode, ⟨0, false, 0, false⟩), c2)) := Lib.hid (by rw [HY.out, hx])
      clear hx
      go_wp2_with fail
      refine HC.out.mono ?_
      rintro e w5 ⟨rfl, h5⟩
      have hQ5 := (h5.block W.heap.size (lt_of_heap HQ.out) (by have := HS.out.1; omega)).trans HQ.out
      have hR5 := (h5.block (W.heap.size + 1) (lt_of_heap HR.out) (by have := HS.out.1; omega)).trans HR.out
      have hlow5 : Below W.heap.size W w5 := Mod.lower HLow.out h5 (by have := HS.out.1; omega)
      refine leaves_cons (f := 16) (args := #[.pointer (some ⟨W.heap.size + 1, 0, none⟩)]) (by simp) (by simp [go_sem]) ?_
      refine (catch_panicking (W.heap.size + 1) c2 [] w5 _ (cell_at hR5 0) (free_at hR5 0)).mono ?_
      rintro e u' w6 ⟨rfl, rfl, rfl⟩
      have hQ6 := blk_ne hQ5 (show W.heap.size ≠ W.heap.size + 1 by omega) (.int .i64 c2) 0
      have hR6 := cell_at (heap_setCell_same _ _ 0 _ _ (.int .i64 c2) hR5) 0
      have hlow6 : Below W.heap.size W (w5.setCell ⟨W.heap.size + 1, 0, none⟩ (.int .i64 c2)) := Below.setCell hlow5 (Nat.le_succ _) _
      refine ⟨_, results_cells rfl _ _ W.heap.size (W.heap.size + 1) _ _ (0, 0) _ (.int .i64 c2) rfl rfl hQ6 (load_err hR6) Tryd.underlying28 rfl (qry_info (0, 0, .slice none 0 0, .slice none 0 0) 0 0), ?_⟩
      rw [HYe.out]
      exact ⟨_, rfl, ⟨(0, 0, .slice none 0 0, .slice none 0 0), rfl, node_zero _ _⟩, hlow6⟩
    | ok x R2 =>
      obtain ⟨x, o⟩ := x
      have HC := Lib.hid (did_ok HQa.out hx)
      have HYe : Hid (y = ((x, o), 0)) := Lib.hid (by rw [HY.out, hx])
      clear hx
      go_wp2_with fail
      refine HC.out.mono ?_
      rintro e w5 ⟨v, rfl, ⟨⟨kd, fd, tv, kv⟩, rfl, hrd⟩, h7, h5⟩
      obtain ⟨ta, tn, tc, ka, kn, kc, rfl, rfl⟩ := hrd.slices
      have hQ5 := (h5.block W.heap.size (lt_of_heap HQ.out) (by have := HS.out.1; omega)).trans HQ.out
      have hR5 := (h5.block (W.heap.size + 1) (lt_of_heap HR.out) (by have := HS.out.1; omega)).trans HR.out
      have hlow5 : Below W.heap.size W w5 := Mod.lower HLow.out h5 (by have := HS.out.1; omega)
      have HQ5 := Lib.hid hQ5
      have HLow5 := Lib.hid hlow5
      have HRd := Lib.hid hrd
      have hR6 := (setRow_other w5 W.heap.size (W.heap.size + 1) (qryC (kd, fd, .slice ta tn tc, .slice ka kn kc) o.lim o.ord).toArray (by omega)).trans hR5
      have qe := cell_at hR6 0
      have fe := free_at hR6 0
      have HR6 := Lib.hid hR6
      clear hrd h7 h5 hQ5 hR5 hlow5 hR6
      go_wp2_with (first
        | (refine wpList_store_row rfl 28 (.tmp 2) (.tmp 13) rfl W.heap.size (qryC (kd, fd, .slice ta tn tc, .slice ka kn kc) o.lim o.ord).toArray rfl rfl 28 zeroQ HQ5.out (qry_info (kd, fd, .slice ta tn tc, .slice ka kn kc) o.lim o.ord) rfl qry_one ?_)
        | fail)
      have hQ6 := blk_ne (setRow_heap _ _ _ (qryC (kd, fd, .slice ta tn tc, .slice ka kn kc) o.lim o.ord).toArray _ _ HQ5.out) (show W.heap.size ≠ W.heap.size + 1 by omega) (.int .i64 0) 0
      have hR7 := cell_at (heap_setCell_same _ _ 0 _ _ (.int .i64 0) HR6.out) 0
      have hlow6 := Below.setCell (below_row HLow5.out (Nat.le_refl _) (qryC (kd, fd, .slice ta tn tc, .slice ka kn kc) o.lim o.ord).toArray) (p := ⟨W.heap.size + 1, 0, none⟩) (Nat.le_succ _) (.int .i64 0)
      refine leaves_cons (f := 16) (args := #[.pointer (some ⟨W.heap.size + 1, 0, none⟩)]) (by simp) (by simp [go_sem]) ?_
      refine (catch_idle (W.heap.size + 1) _).mono ?_
      rintro e u' w6 ⟨rfl, rfl, rfl⟩
      refine ⟨_, results_cells rfl _ _ W.heap.size (W.heap.size + 1) _ _ (0, 0) _ (.int .i64 0) rfl rfl hQ6 (load_err hR7) Tryd.underlying28 rfl (qry_info (kd, fd, .slice ta tn tc, .slice ka kn kc) o.lim o.ord), ?_⟩
      rw [HYe.out]
      refine ⟨_, rfl, ⟨(kd, fd, .slice ta tn tc, .slice ka kn kc), rfl, ?_⟩, hlow6⟩
      have hh := HRd.out.mono (S' := fun b => W.heap.size + 2 ≤ b) fun b _ hb => by have := HS.out; unfold fromB at hb; omega
      refine (hh.keep fun b hb _ => ?_).mono fun b _ hb => by unfold fromB; omega
      rw [Below.heap_setCell _ _ _ _ (show b ≠ W.heap.size + 1 by omega), setRow_other _ _ _ _ (by omega)]
end Go.Proofs.YtaaeooimalglaaaDoor

namespace Go.Proofs.YtaaeooimalglaaaDoor
open Go.RowKit

section
variable {P : Program}
set_option maxRecDepth 100000 in
theorem run_load_cells (w : World) (g o : Nat) (ty : TypeId) (cs : Array Value) (d : TypeDesc) (hp : ∀ (j : Nat) (v : Value), cs.toList[j]? = some v → w.cell? ⟨g, o + j, none⟩ = some v)
    (hu : P.underlying ty = some d) (hd : (match d with | .struct _ | .array _ _ => true | _ => false) = true) (hi : (P.info? ty).map (·.size) = some cs.size) :
    (loadVar ty ⟨g, o, none⟩).run P w = .ok (.agg cs) w := by
  have hl : (loadCells ⟨g, o, none⟩ cs.toList.length).run P w = .ok cs.toList.toArray w :=
    run_loadCells_list (P := P) w ⟨g, o, none⟩ cs.toList (fun j v hv => by
      rw [Addr.add_lit]
      exact hp j v hv)
  cases hq : P.info? ty with
  | none => simp [hq] at hi
  | some i =>
    have hs : i.size = cs.size := by simpa [hq] using hi
    have hagg : (isAgg ty).run P w = .ok true w := by
      unfold isAgg
      rw [Sem.run_bind, run_underlying hu w]
      cases d <;> simp_all
    simp only [Array.length_toList, Array.toArray_toList] at hl
    simp [loadVar, Sem.run_bind, hagg, sizeOf, typeInfo, hq, hs, hl]
set_option maxRecDepth 100000 in
theorem wp_load_cells {o : Oper} {a : Act} {w : World} {K : Act → World → Prop} {Q : Exit → Act → World → Prop} (ty : TypeId) (x : Operand) (ho : o.op = .load ty x)
    (g f : Nat) (hx : a.eval x = .pointer (some ⟨g, f, none⟩)) (cs : Array Value) (d : TypeDesc) (hp : ∀ (j : Nat) (v : Value), cs.toList[j]? = some v → w.cell? ⟨g, f + j, none⟩ = some v)
    (hu : P.underlying ty = some d) (hd : (match d with | .struct _ | .array _ _ => true | _ => false) = true) (hi : (P.info? ty).map (·.size) = some cs.size)
    (h : K (a.put o.dst (.agg cs)) w) : o.wp P a w K Q := by
  unfold Oper.wp execOp
  simp only [ho, hx, Instr.loadAt, Instr.sureAddr, Sem.run_bind, Sem.run_pure, Result.andThen_ok, run_load_cells w g f ty cs d hp hu hd hi]
  exact h
end
/-- How many terms and kids a tree has is within reach. -/
inductive FewN : Nd → Prop
  | mk {k f : Int} {ts : List Tk} {ks : List Nd} (ht : ts.length ≤ 1000000) (hk : ks.length ≤ 1000000) (h : ∀ x ∈ ks, FewN x) : FewN (.mk k f ts ks)
set_option maxRecDepth 100000 in
set_option maxHeartbeats 4000000 in
theorem same_node : ∀ (x : Nd), FewN x → ∀ (w : World) (S S' : Nat → Prop) (r r' : Rn), RdN w S x r → RdN w S' x r' → Calls Tryd.prog 12 #[rnV r, rnV r'] w fun e w' => e = .returned (.bool true) ∧ Below w.heap.size w w' := by
  refine Nd.induct fun k f ts ks ih hfew w S S' r r' h h' => ?_
  cases h with
  | @mk _ _ _ _ ta ka tc kc rs hf0 hf1 ht htl htm htb hk hkl hkm hkb hl hr =>
  cases h' with
  | @mk _ _ _ _ ta' ka' tc' kc' rs' _ _ ht' htl' htm' htb' hk' hkl' hkm' hkb' hl' hr' =>
  cases hfew with
  | mk hft hfk hfs =>
  obtain ⟨n, hn⟩ : ∃ n, n = ts.length := ⟨_, rfl⟩
  obtain ⟨m, hm⟩ : ∃ m, m = ks.length := ⟨_, rfl⟩
  have hsame : ∀ wx, Below w.heap.size w wx → Calls Tryd.prog 15 #[.slice ta ts.length tc, .slice ta' ts.length tc'] wx fun e w' => e = .returned (.bool true) ∧ Below wx.heap.size wx w' := fun wx hb => by
    have := same_toks wx ta ta' tc tc' ts ts (ht.below hb) (ht'.below hb) hft
    rw [decide_eq_true rfl] at this
    exact this
  rw [← hn] at hsame htl htl'
  rw [← hm] at hkl hkl' hfk
  have HSm := Lib.hid hsame
  have HM := Lib.hid hm
  have HIh := Lib.hid (fun (i : Nat) x r r' (h1 : ks[i]? = some x) (h2 : rs[i]? = some r) (h3 : rs'[i]? = some r') (wx : World) (hb : Below w.heap.size w wx) => ih x (List.mem_of_getElem? h1) (hfs x (List.mem_of_getElem? h1)) wx S S' r r' ((hr i x r h1 h2).after hb) ((hr' i x r' h1 h3).after hb))
  have HK := Lib.hid (And.intro hk (And.intro hk' (And.intro hl hl')))
  have HC := Lib.hid (And.intro hkl hkl')
  rw [← hn, ← hm, show rnV (k, f, .slice ta n tc, .slice ka m kc) = .agg #[.int .i64 k, .int .u8 f, .slice ta n tc, .slice ka m kc] from rfl, show rnV (k, f, .slice ta' n tc', .slice ka' m kc') = .agg #[.int .i64 k, .int .u8 f, .slice ta' n tc', .slice ka' m kc'] from rfl]
  clear hsame hn hm ih hf0 hf1 ht htl htm htb hk hkl hkm hkb hl hr ht' htl' htm' htb' hk' hkl' hkm' hkb' hl' hr' hft hfs
  go_enter Tryd.func12, Tryd.ntmps12
  go_wp2_with (go_at_call 15; refine (HSm.out _ below_al2).mono ?_; rintro e w3 ⟨rfl, hb3⟩; have HB3 := Lib.hid (low_more below_al2 hb3); have HX0 := Lib.hid (blk_low (heap2_0 w _ _) hb3); have HX1 := Lib.hid (blk_low (heap2_1 w _ _) hb3); have q3 := cell_at HX0.out 3; clear hb3)
  clear q3
  go_loopw [38] (fun iv wr => ∃ i : Nat, i ≤ m ∧ iv = .int .i64 i ∧ Below w3.heap.size w3 wr) (fun iv _ => m - (intOf iv).toNat)
  case atStart => exact ⟨0, by omega, rfl, Below.refl _ _⟩
  case round =>
    obtain ⟨i, hi, rfl, hlow⟩ := hrel
    by_cases hlt : i < m
    · obtain ⟨x, hx⟩ : ∃ x, ks[i]? = some x := ⟨_, List.getElem?_eq_getElem (by rw [← HM.out]; exact hlt)⟩
      obtain ⟨ri, hri⟩ : ∃ ri, rs[i]? = some ri := ⟨_, List.getElem?_eq_getElem (by rw [HK.out.2.2.1, ← HM.out]; exact hlt)⟩
      obtain ⟨ri', hri'⟩ : ∃ ri', rs'[i]? = some ri' := ⟨_, List.getElem?_eq_getElem (by rw [HK.out.2.2.2, ← HM.out]; exact hlt)⟩
      obtain ⟨g, o, rfl, hca⟩ := HK.out.1 i ri hri
      obtain ⟨g', o', rfl, hcb⟩ := HK.out.2.1 i ri' hri'
      have HIH : Hid (∀ wx, Below w3.heap.size w3 wx → Calls Tryd.prog 12 #[.agg (rnC ri).toArray, .agg (rnC ri').toArray] wx fun e w' => e = .returned (.bool true) ∧ Below wx.heap.size wx w') := Lib.hid (fun wx hb => HIh.out i x ri ri' hx hri hri' wx (low_more HB3.out hb))
      have HCa := Lib.hid (fun (j : Nat) v (hv : (rnC ri).toArray.toList[j]? = some v) => below_cell (hca j v hv) HB3.out)
      have HCb := Lib.hid (fun (j : Nat) v (hv : (rnC ri').toArray.toList[j]? = some v) => below_cell (hcb j v hv) HB3.out)
      have HLow := Lib.hid hlow
      clear hx hri hri' hca hcb hlow
      have hmi : (i : Int) < (m : Int) := by omega
      go_upto_region 6 with fail
      refine wp_region_cl (fun (p : Unit) jz => [(.pointer (some ⟨w.heap.size, 3, none⟩)), (.slice (some ⟨g, o, none⟩) m kc), (.int .i64 (i : Int)), (.pointer (some ⟨g, o + i * 4, none⟩)), (.agg (rnC ri).toArray), (.pointer (some ⟨w.heap.size + 1, 3, none⟩)), (.slice (some ⟨g', o', none⟩) m kc'), (.int .i64 (i : Int)), (.pointer (some ⟨g', o' + i * 4, none⟩)), (.agg (rnC ri').toArray), (.bool true), (.bool false)].getD jz undef)
        (fun p l wx => Below w3.heap.size w3 wx)
        (by kernel_rfl) (by kernel_rfl) (fun q => by simp only [putTo, dstOf, Act.put, List.size_toArray, List.length_cons, List.length_nil, List.getElem?_toArray, Nat.reduceAdd, Option.bind_some, List.getElem?_cons_zero, List.getElem?_cons_succ, List.setIfInBounds_toArray, List.set_cons_zero, List.set_cons_succ, List.getD_cons_zero, List.getD_cons_succ]; exact rfl) () ?_ ?_ ?_
      · exact HLow.out.drew
      · intro i o ho p l wx hR hl he hcl K hK
        rcases i with _ | _ | _ | _ | _ | _ | _ | _ | _ | _ | _ | _ | i
        · obtain rfl : _ = o := Option.some.inj ho
          go_simp
          exact hK p wx (fun _ _ => rfl) hR
        · obtain rfl : _ = o := Option.some.inj ho
          have q := cell_at (blk_low HX0.out hR) 3
          go_simp
          exact hK p wx (fun _ _ => rfl) hR
        · obtain rfl : _ = o := Option.some.inj ho
          go_simp
          exact hK p wx (fun _ _ => rfl) hR
        · obtain rfl : _ = o := Option.some.inj ho
          go_simp
          exact hK p wx (fun _ _ => rfl) hR
        · obtain rfl : _ = o := Option.some.inj ho
          exact wp_load_cells 26 (.tmp 44) rfl g (o + i * 4) rfl (rnC ri).toArray _ (fun j v hv => below_cell (HCa.out j v hv) hR) Tryd.underlying26 rfl (node_info ri) (hK p wx (fun _ _ => rfl) hR)
        · obtain rfl : _ = o := Option.some.inj ho
          go_simp
          exact hK p wx (fun _ _ => rfl) hR
        · obtain rfl : _ = o := Option.some.inj ho
          have q := cell_at (blk_low HX1.out hR) 3
          go_simp
          exact hK p wx (fun _ _ => rfl) hR
        · obtain rfl : _ = o := Option.some.inj ho
          go_simp
          exact hK p wx (fun _ _ => rfl) hR
        · obtain rfl : _ = o := Option.some.inj ho
          go_simp
          exact hK p wx (fun _ _ => rfl) hR
        · obtain rfl : _ = o := Option.some.inj ho
          exact wp_load_cells 26 (.tmp 49) rfl g' (o' + i * 4) rfl (rnC ri').toArray _ (fun j v hv => below_cell (HCb.out j v hv) hR) Tryd.underlying26 rfl (node_info ri') (hK p wx (fun _ _ => rfl) hR)
        · obtain rfl : _ = o := Option.some.inj ho
          have HR := Lib.hid hR
          clear hR
          go_simp
          refine (HIH.out wx HR.out).mono ?_
          rintro e wy ⟨rfl, hb⟩
          exact hK p wy (fun _ _ => rfl) (low_more HR.out hb)
        · obtain rfl : _ = o := Option.some.inj ho
          go_simp
          exact hK p wx (fun _ _ => rfl) hR
        · simp at ho
      · intro p l wx hl hR
        have HR := Lib.hid hR
        clear hR hl
        go_wp2_with fail
        go_roundw
        case rel => exact ⟨i + 1, by omega, by go_num, HR.out⟩
        case measure => simp [intOf]; omega
    · have HLow := Lib.hid hlow
      clear hlow
      go_wp2_with fail
      try rw [Exit.noGoto_ret]
      go_ret
      exact ⟨rfl, low_more HB3.out HLow.out⟩
end Go.Proofs.YtaaeooimalglaaaDoor

namespace Go.Proofs.YtaaeooimalglaaaDoor

set_option maxRecDepth 100000 in
theorem few_word {k : Nat} {l q l' : List Nat} (h : wordP k l = .ok q l') : q.length ≤ l.length := by
  unfold wordP at h
  split at h
  · cases h
  · injection h with h1 h2
    subst h1
    have := (List.takeWhile_prefix letB (l := skipB l)).length_le
    have := skipB_le l
    omega
set_option maxRecDepth 100000 in
theorem few_phrase {l q l' : List Nat} (h : phraseP l = .ok q l') : q.length ≤ l.length := by
  unfold phraseP at h
  split at h
  · injection h with h1 h2
    subst h1
    exact (List.takeWhile_prefix _).length_le
  · cases h
set_option maxRecDepth 100000 in
theorem few_places : ∀ (L : List (List Nat)) (n : Nat), (placesF n L).length ≤ L.length
  | [], _ => Nat.le_refl _
  | t :: L, n => by
    have := few_places L (n + 1)
    rw [placesF]
    split <;> simp <;> omega
set_option maxRecDepth 100000 in
theorem few_all (q : List Nat) : (allR q).length ≤ q.length + 1 := by
  rw [allR_cut, List.length_map]
  exact cutA_le q []
set_option maxRecDepth 100000 in
theorem few_leafNd (f : Int) {q : List Nat} (h : q.length ≤ 999999) : FewN (leafNd f q) := by
  refine .mk ?_ (by simp) (fun x hx => by cases hx)
  have h1 := few_all q
  have h2 := few_places (allR q) 0
  unfold leafW wordsR
  rw [List.length_map]
  omega
set_option maxRecDepth 100000 in
theorem few_leaf {k : Nat} {l l' : List Nat} {t : Nd} (hl : l.length ≤ 999999) (h : leafP k l = .ok t l') : FewN t := by
  have hf := field_le l
  unfold leafP at h
  split at h
  · obtain ⟨q, h1, rfl⟩ := map_ok h
    have h2 := few_phrase h1
    have h3 := skipB_le (fieldP l).2
    have := List.length_drop (i := 1) (l := skipB (fieldP l).2)
    exact few_leafNd _ (by omega)
  · obtain ⟨q, h1, rfl⟩ := map_ok h
    have := few_word h1
    exact few_leafNd _ (by omega)
set_option maxRecDepth 100000 in
theorem few_join (kind : Int) {ps : List Nd} (hl : ps.length ≤ 1000000) (h : ∀ x ∈ ps, FewN x) : FewN (joinN kind ps) := by
  unfold joinN
  split
  · exact h _ (by simp)
  · exact .mk (by simp) hl h
set_option maxRecDepth 100000 in
theorem few_snoc {ps : List Nd} {n : Nd} (h : ∀ x ∈ ps, FewN x) (hn : FewN n) : ∀ x ∈ ps ++ [n], FewN x := by
  intro x hx
  rcases List.mem_append.1 hx with h1 | h1
  · exact h x h1
  · simp at h1; subst h1; exact hn
set_option maxRecDepth 100000 in
theorem few_andLoop {nt : List Nat → PR Nd} (hn : Less _ nt) (hw : ∀ l n l', l.length ≤ 999999 → nt l = .ok n l' → FewN n) : ∀ (f : Nat) (ps : List Nd) (l : List Nat) (n : Nd) (l' : List Nat), ps.length + l.length ≤ 999999 → (∀ x ∈ ps, FewN x) → andLoop nt f ps l = .ok n l' → FewN n
  | 0, _, _, _, _, _, _, h => by cases h
  | f + 1, ps, l, n, l', hl, hps, h => by
    have hs := skipB_le l
    have hd := List.length_drop (i := 1) (l := skipB l)
    rw [andLoop] at h
    split at h
    · obtain ⟨a, l1, h1, h2⟩ := bind_ok h
      have := hn _ _ _ h1
      exact few_andLoop hn hw f _ _ _ _ (by simp only [List.length_append, List.length_cons, List.length_nil]; omega) (few_snoc hps (hw _ _ _ (by omega) h1)) h2
    · split at h
      · obtain ⟨a, l1, h1, h2⟩ := bind_ok h
        have := hn _ _ _ h1
        exact few_andLoop hn hw f _ _ _ _ (by simp only [List.length_append, List.length_cons, List.length_nil]; omega) (few_snoc hps (hw _ _ _ (by omega) h1)) h2
      · injection h with h1 h2; subst h1; exact few_join 2 (by omega) hps
set_option maxRecDepth 100000 in
theorem few_and {nt : List Nat → PR Nd} (hn : Less _ nt) (hw : ∀ l n l', l.length ≤ 999999 → nt l = .ok n l' → FewN n) : ∀ l n l', l.length ≤ 999999 → andP nt l = .ok n l' → FewN n := by
  intro l n l' hl h
  obtain ⟨a, l1, h1, h2⟩ := bind_ok h
  have := hn _ _ _ h1
  exact few_andLoop hn hw _ [a] l1 n l' (by simp only [List.length_cons, List.length_nil]; omega) (fun x hx => by simp at hx; subst hx; exact hw _ _ _ hl h1) h2
set_option maxRecDepth 100000 in
theorem few_orLoop {nt : List Nat → PR Nd} (hn : Less _ nt) (hw : ∀ l n l', l.length ≤ 999999 → nt l = .ok n l' → FewN n) : ∀ (f : Nat) (ps : List Nd) (l : List Nat) (n : Nd) (l' : List Nat), ps.length + l.length ≤ 999999 → (∀ x ∈ ps, FewN x) → orLoop nt f ps l = .ok n l' → FewN n
  | 0, _, _, _, _, _, _, h => by cases h
  | f + 1, ps, l, n, l', hl, hps, h => by
    have hs := skipB_le l
    have hd := List.length_drop (i := 1) (l := skipB l)
    rw [orLoop] at h
    split at h
    · obtain ⟨a, l1, h1, h2⟩ := bind_ok h
      have := hn _ _ _ h1
      exact few_orLoop hn hw f _ _ _ _ (by simp only [List.length_append, List.length_cons, List.length_nil]; omega) (few_snoc hps (hw _ _ _ (by omega) h1)) h2
    · injection h with h1 h2; subst h1; exact few_join 3 (by omega) hps
set_option maxRecDepth 100000 in
theorem few_or {nt : List Nat → PR Nd} (hn : Less _ nt) (hw : ∀ l n l', l.length ≤ 999999 → nt l = .ok n l' → FewN n) : ∀ l n l', l.length ≤ 999999 → orP nt l = .ok n l' → FewN n := by
  intro l n l' hl h
  obtain ⟨a, l1, h1, h2⟩ := bind_ok h
  have := hn _ _ _ h1
  exact few_orLoop hn hw _ [a] l1 n l' (by simp only [List.length_cons, List.length_nil]; omega) (fun x hx => by simp at hx; subst hx; exact hw _ _ _ hl h1) h2
set_option maxRecDepth 100000 in
theorem few_not : ∀ (k : Nat) (l : List Nat) (n : Nd) (l' : List Nat), l.length ≤ 999999 → notP k l = .ok n l' → FewN n
  | 0, l, n, l', hl, h => by
    have hs := skipB_le l
    rw [notP] at h
    split at h
    · cases h
    · exact few_leaf (by omega) h
  | k + 1, l, n, l', hl, h => by
    have hs := skipB_le l
    have hd := List.length_drop (i := 1) (l := skipB l)
    rw [notP] at h
    split at h
    · obtain ⟨a, h1, rfl⟩ := map_ok h
      have := few_not k _ _ _ (by omega) h1
      exact .mk (by simp) (by simp) (fun x hx => by simp at hx; subst hx; exact this)
    · split at h
      · obtain ⟨a, l1, h1, h2⟩ := bind_ok h
        have := few_or (and_less (not_less k)) (few_and (not_less k) (few_not k)) _ _ _ (by omega) h1
        split at h2
        · injection h2 with h3 h4; subst h3; exact this
        · cases h2
      · exact few_leaf (by omega) h
set_option maxRecDepth 100000 in
theorem few_parse {l l' : List Nat} {x : Nd × Opt} (hl : l.length ≤ 999999) (h : parseR l = .ok x l') : FewN x.1 := by
  rw [parseR_eq] at h
  obtain ⟨n, l1, h1, h2⟩ := bind_ok h
  obtain ⟨o, h3, rfl⟩ := map_ok h2
  exact few_or (and_less (not_less 8)) (few_and (not_less 8) (few_not 8)) _ _ _ hl h1
set_option maxRecDepth 100000 in
theorem few_x {s : ByteArray} : FewN (parseX s).1.1 := by
  unfold parseX
  split
  · exact .mk (by simp) (by simp) (fun x hx => by cases hx)
  · have := (runesOf_many s).1
    split
    · rename_i x l' h
      exact few_parse (by omega) h
    · exact .mk (by simp) (by simp) (fun x hx => by cases hx)
/-! ### Texts put together out of low bytes and others -/
set_option maxRecDepth 100000 in
theorem enc_low {c : Nat} (h : c < 128) : encR c = [c] := by unfold encR; rw [if_pos h]
set_option maxRecDepth 100000 in
theorem text_lowf : ∀ {l : List Nat}, (∀ c ∈ l, c < 128) → textL l = l
  | [], _ => rfl
  | c :: l, h => by
    show encR c ++ textL l = _
    rw [enc_low (h c (by simp)), text_lowf fun x hx => h x (by simp [hx])]
    rfl
set_option maxRecDepth 100000 in
theorem runes_low {l : List Nat} (h : ∀ c ∈ l, c < 128) (L : List Nat) : runesL (l ++ L) = l ++ runesL L := by
  have := runes_text l (fun c hc => ok_low (h c hc)) L
  rwa [text_lowf h] at this
set_option maxRecDepth 100000 in
theorem runes_around {a b : ByteArray} (ha : ∀ c ∈ bytesL a, c < 128) (hb : ∀ c ∈ bytesL b, c < 128) (s : ByteArray) : runesOf (a ++ s ++ b) = bytesL a ++ runesOf s ++ bytesL b := by
  have h0 : runesL [] = [] := by unfold runesL; rfl
  unfold runesOf
  rw [bytesL_append, bytesL_append, List.append_assoc, runes_low ha, List.append_assoc]
  congr 1
  cases hq : bytesL b with
  | nil => rw [List.append_nil, List.append_nil]
  | cons c q =>
    rw [hq] at hb
    rw [runes_apart c q (hb c (by simp)) (bytesL s)]
    congr 2
    have := runes_low (l := q) (fun x hx => hb x (by simp [hx])) []
    rw [List.append_nil, h0, List.append_nil] at this
    exact this
set_option maxRecDepth 100000 in
/-- Blanks at both ends. -/
theorem blanks_x {a b s : ByteArray} (ha : Bl (bytesL a)) (hb : Bl (bytesL b)) (h1 : s.size ≤ 200) (h2 : a.size ≤ 3) (h3 : b.size ≤ 3) : parseX (a ++ s ++ b) = parseX s := by
  have hlow : ∀ c, blankB c = true → c < 128 := by intro c hc; unfold blankB at hc; simp at hc; omega
  have hA := blanks_alike ha hb (runesOf s)
  unfold parseX
  rw [if_neg (by rw [ByteArray.size_append, ByteArray.size_append]; omega), if_neg (by omega), runes_around (fun c hc => hlow c (ha c hc)) (fun c hc => hlow c (hb c hc))]
  revert hA
  cases parseR (runesOf s) with
  | ok x l => cases parseR (bytesL a ++ runesOf s ++ bytesL b) with
    | ok y m => intro h; obtain ⟨h, -⟩ := h; subst h; rfl
    | err e => intro h; cases h
  | err e => cases parseR (bytesL a ++ runesOf s ++ bytesL b) with
    | ok y m => intro h; cases h
    | err f => intro h; cases h; rfl
end Go.Proofs.YtaaeooimalglaaaDoor

namespace Go.Proofs.YtaaeooimalglaaaDoor
open Go.RowKit

/-- What the program's variables are to hold. -/
def TQ (w : World) : Prop := TabsIn w ∧ ErrsIn w
set_option maxRecDepth 100000 in
theorem TQ.below {w w' : World} (h : TQ w) (hb : Below w.heap.size w w') : TQ w' := ⟨h.1.below hb, h.2.below hb⟩
set_option maxRecDepth 100000 in
theorem iface_var {P : Program} {w : World} {name tn : String} {g : Nat} {t : TypeId} {ms : Array (String × TypeId)} {d : DataW Unit} (hg : P.globalNamed name = some g) (ht : (P.globals[g]?).map (·.type) = some t) (hu : P.underlying t = some (.interface ms)) (h : VarReads P w name (.iface tn d)) :
    ∃ tp p, w.var? P name = some #[.iface tp p] := by
  obtain ⟨g', t', cs, fuel, p, h1, h2, h3, h4⟩ := h
  obtain rfl := Option.some.inj (hg.symm.trans h1)
  obtain rfl := Option.some.inj (ht.symm.trans h2)
  obtain ⟨_, u, v, hc, _, _⟩ := iface_of_trod hu h4
  have : cs = #[.iface u v] := by cases cs; simp_all
  subst this
  exact ⟨u, v, h3⟩
set_option maxRecDepth 100000 in
theorem of_laid_qry {W : World} (h : laidMetH Tryd.prog [("math/bits.deBruijn32tab", Rows.laid_math_bits_deBruijn32tab), ("math/bits.deBruijn64tab", Rows.laid_math_bits_deBruijn64tab), ("internal/strconv.uint64pow10", Rows.laid_internal_strconv_uint64pow10), ("plover/fold.kinds", Rows.laid_plover_fold_kinds), ("plover/fold.shifts", Rows.laid_plover_fold_shifts), ("strconv.ErrRange", Rows.laid_strconv_ErrRange), ("strconv.ErrSyntax", Rows.laid_strconv_ErrSyntax)] W) : TQ W := by
  have L := fun n d hm => laid_reads (by kernel_rfl) h n d hm
  exact ⟨⟨table_row (t := 77) (xs := kindsA.toList) 4 (by kernel_rfl) (by kernel_rfl) (by kernel_rfl) (L _ _ (.tail _ (.tail _ (.tail _ (.head _))))), table_row (t := 128) (xs := shiftsA.toList) 4 (by kernel_rfl) (by kernel_rfl) (by kernel_rfl) (L _ _ (.tail _ (.tail _ (.tail _ (.tail _ (.head _))))))⟩,
    iface_var (g := 1) (by kernel_rfl) (by kernel_rfl) Tryd.underlying69 (L _ _ (.tail _ (.tail _ (.tail _ (.tail _ (.tail _ (.tail _ (.head _)))))))), iface_var (g := 2) (by kernel_rfl) (by kernel_rfl) Tryd.underlying69 (L _ _ (.tail _ (.tail _ (.tail _ (.tail _ (.tail _ (.head _)))))))⟩
set_option maxRecDepth 100000 in
set_option maxHeartbeats 4000000 in
theorem same_query (w : World) (S S' : Nat → Prop) (x : Nd) (lim ord : Int) (hf : FewN x) (r r' : Rn) (h : RdN w S x r) (h' : RdN w S' x r') :
    Calls Tryd.prog 8 #[.agg (qryC r lim ord).toArray, .agg (qryC r' lim ord).toArray] w fun e w' => e = .returned (.bool true) ∧ Below w.heap.size w w' := by
  have HS := Lib.hid (fun wx (hb : Below w.heap.size w wx) => same_node x hf wx S S' r r' (h.after hb) (h'.after hb))
  obtain ⟨k, f, tv, kv⟩ := r
  obtain ⟨k', f', tv', kv'⟩ := r'
  obtain ⟨ta, tn, tc, ka, kn, kc, rfl, rfl⟩ := h.slices
  obtain ⟨ta', tn', tc', ka', kn', kc', rfl, rfl⟩ := h'.slices
  clear h h'
  rw [show (qryC (k, f, .slice ta tn tc, .slice ka kn kc) lim ord).toArray = #[.int .i64 k, .int .u8 f, .slice ta tn tc, .slice ka kn kc, .int .i64 lim, .int .i64 ord] from rfl, show (qryC (k', f', .slice ta' tn' tc', .slice ka' kn' kc') lim ord).toArray = #[.int .i64 k', .int .u8 f', .slice ta' tn' tc', .slice ka' kn' kc', .int .i64 lim, .int .i64 ord] from rfl]
  rw [show rnV (k, f, .slice ta tn tc, .slice ka kn kc) = .agg #[.int .i64 k, .int .u8 f, .slice ta tn tc, .slice ka kn kc] from rfl, show rnV (k', f', .slice ta' tn' tc', .slice ka' kn' kc') = .agg #[.int .i64 k', .int .u8 f', .slice ta' tn' tc', .slice ka' kn' kc'] from rfl] at HS
  go_enter Tryd.func8, Tryd.ntmps8
  go_wp2_with fail
  refine (HS.out _ below_al2).mono ?_
  rintro e w3 ⟨rfl, hb⟩
  go_wp2_with fail
  go_ret
  exact ⟨rfl, low_more below_al2 hb⟩
/-! ### The chapter's examples -/
def fx1 : ByteArray := ⟨#[102, 111, 120, 32, 100, 111, 103, 32, 124, 32, 49, 58, 99, 97, 116]⟩
def fx2 : ByteArray := ⟨#[34, 116, 104, 101, 32, 102, 111, 120, 34]⟩
def fx3 : ByteArray := ⟨#[102, 111, 120, 32, 35, 54, 53]⟩
def fx4 : ByteArray := ⟨#[40, 40, 40, 40, 40, 40, 40, 40, 40, 102, 111, 120]⟩
def leaf1 (f : Int) (s : ByteArray) : Nd := .mk 1 f [(f, s, 0)] []
set_option maxRecDepth 100000 in
theorem px1 : parseX fx1 = ((.mk 3 0 [] [.mk 2 0 [] [leaf1 0 ⟨#[102, 111, 120]⟩, leaf1 0 ⟨#[100, 111, 103]⟩], leaf1 1 ⟨#[99, 97, 116]⟩], ⟨10, false, 0, false⟩), 0) := by kernel_rfl
set_option maxRecDepth 100000 in
theorem px2 : parseX fx2 = ((leaf1 0 ⟨#[102, 111, 120]⟩, ⟨10, false, 0, false⟩), 0) := by kernel_rfl
set_option maxRecDepth 100000 in
theorem px3 : (parseX fx3).2 = 8 := by kernel_rfl
set_option maxRecDepth 100000 in
theorem px4 : (parseX fx4).2 = 9 := by kernel_rfl
set_option maxRecDepth 100000 in
theorem two_kids {w : World} {S : Nat → Prop} {k f : Int} {x y : Nd} {r : Rn} (h : RdN w S (.mk k f [] [x, y]) r) :
    ∃ ta tc g o kc, r = (k, f, .slice ta 0 tc, .slice (some ⟨g, o, none⟩) 2 kc) ∧ 2 ≤ kc ∧ w.cell? ⟨g, o, none⟩ = some (.int .i64 x.kind) ∧ w.cell? ⟨g, o + 5, none⟩ = some (.int .u8 y.field) := by
  cases h with
  | @mk _ _ _ _ ta ka tc kc rs hf0 hf1 ht htl htm htb hk hkl hkm hkb hl hr =>
  obtain ⟨r0, h0⟩ : ∃ r, rs[0]? = some r := ⟨_, List.getElem?_eq_getElem (by rw [hl]; simp)⟩
  obtain ⟨r1, h1⟩ : ∃ r, rs[1]? = some r := ⟨_, List.getElem?_eq_getElem (by rw [hl]; simp)⟩
  obtain ⟨g, o, rfl, hc⟩ := hk 0 r0 h0
  obtain ⟨g', o', he, hc'⟩ := hk 1 r1 h1
  obtain ⟨rfl, rfl⟩ : g = g' ∧ o = o' := by injection he with he; injection he with a b; exact ⟨a, b⟩
  have p0 := (hr 0 x r0 rfl h0).parts
  have p1 := (hr 1 y r1 rfl h1).parts
  have c0 := hc 0 (.int .i64 r0.1) rfl
  have c1 := hc' 1 (.int .u8 r1.2.1) rfl
  rw [p0.1] at c0
  rw [p1.2.1] at c1
  refine ⟨ta, tc, g, o, kc, rfl, by simpa using hkl, by simpa using c0, ?_⟩
  rw [show o + 5 = o + 1 * 4 + 1 by omega]
  exact c1
set_option maxRecDepth 100000 in
theorem one_term {w : World} {S : Nat → Prop} {f : Int} {s : ByteArray} {r : Rn} (h : RdN w S (leaf1 f s) r) :
    ∃ ta tc ka kc, r = (1, f, .slice ta 1 tc, .slice ka 0 kc) ∧ ReadT w ta [(f, s, 0)] := by
  cases h with
  | @mk _ _ _ _ ta ka tc kc rs hf0 hf1 ht htl htm htb hk hkl hkm hkb hl hr => exact ⟨ta, tc, ka, kc, rfl, ht⟩
set_option maxRecDepth 100000 in
set_option maxHeartbeats 4000000 in
theorem fixed17 (w : World) (hT : TQ w) : Calls Tryd.prog 6 #[] w fun e w' => e = .returned (.bool true) ∧ Below w.heap.size w w' := by
  have HP := Lib.hid (fun wx (s : ByteArray) (hb : Below w.heap.size w wx) (hs : s.size ≤ 1000000) => parse_any wx s (hT.below hb).1 (hT.below hb).2 hs)
  clear hT
  go_enter Tryd.func6, Tryd.ntmps6
  go_wp2_with fail
  refine (HP.out w fx1 (Below.refl _ _) (by decide)).mono ?_
  rintro e w1 ⟨v, rfl, ⟨r, rfl, hr⟩, hb1⟩
  rw [px1] at hr ⊢
  obtain ⟨ta1, tc1, g1, o1, kc1, rfl, hk1, hc1, hd1⟩ := two_kids hr
  clear hr
  have HC1 := Lib.hid (And.intro hc1 hd1)
  have HB1 := Lib.hid (hb1.alloc hb1.size (.cells #[.int .i64 3, .int .u8 0, .slice ta1 0 tc1, .slice (some ⟨g1, o1, none⟩) 2 kc1, .int .i64 10, .int .i64 0] 28))
  have HD1 := Lib.hid (And.intro (below_cell hc1 (below_one (w := w1) (A := .cells #[.int .i64 3, .int .u8 0, .slice ta1 0 tc1, .slice (some ⟨g1, o1, none⟩) 2 kc1, .int .i64 10, .int .i64 0] 28))) (And.intro (below_cell hd1 (below_one (w := w1) (A := .cells #[.int .i64 3, .int .u8 0, .slice ta1 0 tc1, .slice (some ⟨g1, o1, none⟩) 2 kc1, .int .i64 10, .int .i64 0] 28))) (heap_alloc_new w1 (.cells #[.int .i64 3, .int .u8 0, .slice ta1 0 tc1, .slice (some ⟨g1, o1, none⟩) 2 kc1, .int .i64 10, .int .i64 0] 28))))
  clear hb1 hc1 hd1 HC1
  simp only [qryC, rnC, List.cons_append, List.nil_append]
  go_wp2_with fail
  generalize w1.heap.size = q1 at HD1 ⊢
  generalize w1.alloc (.cells #[.int .i64 3, .int .u8 0, .slice ta1 0 tc1, .slice (some ⟨g1, o1, none⟩) 2 kc1, .int .i64 10, .int .i64 0] 28) = w2 at HD1 HB1 ⊢
  clear w1
  refine (HP.out w2 fx2 HB1.out (by decide)).mono ?_
  rintro e w3 ⟨v, rfl, ⟨r, rfl, hr⟩, hb3⟩
  rw [px2] at hr ⊢
  obtain ⟨ta2, tc2, ka2, kc2, rfl, ht2⟩ := one_term hr
  clear hr
  obtain ⟨X, hX⟩ : ∃ X : Obj, X = .cells #[.int .i64 1, .int .u8 0, .slice ta2 1 tc2, .slice ka2 0 kc2, .int .i64 10, .int .i64 0] 28 := ⟨_, rfl⟩
  have hb4 := hb3.alloc hb3.size X
  have HB2 := Lib.hid (low_more HB1.out hb4)
  have HD2 := Lib.hid (And.intro (below_cell HD1.out.1 hb4) (And.intro (below_cell HD1.out.2.1 hb4) (blk_low HD1.out.2.2 hb4)))
  have HE2 := Lib.hid (And.intro (ht2.below (below_one (w := w3) (A := X))) (heap_alloc_new w3 X))
  clear hb3 hb4 ht2 HD1 HB1
  simp only [qryC, rnC, List.cons_append, List.nil_append]
  go_wp2_with fail
  rw [← hX]
  rw [hX] at HE2
  rw [← hX] at HE2
  generalize w3.heap.size = q2 at HE2 ⊢
  generalize w3.alloc X = w4 at HE2 HD2 HB2 ⊢
  clear w3
  refine (HP.out w4 fx3 HB2.out (by decide)).mono ?_
  rintro e w5 ⟨v, rfl, ⟨⟨k5, f5, tv5, kv5⟩, rfl, hr⟩, hb5⟩
  rw [px3]
  obtain ⟨ta5, tn5, tc5, ka5, kn5, kc5, rfl, rfl⟩ := hr.slices
  clear hr
  obtain ⟨l5, hl5⟩ : ∃ l5, l5 = (parseX fx3).1.2.lim := ⟨_, rfl⟩
  obtain ⟨m5, hm5⟩ : ∃ m5, m5 = (parseX fx3).1.2.ord := ⟨_, rfl⟩
  rw [← hl5, ← hm5]
  clear hl5 hm5
  obtain ⟨Y, hY⟩ : ∃ Y : Obj, Y = .cells #[.int .i64 k5, .int .u8 f5, .slice ta5 tn5 tc5, .slice ka5 kn5 kc5, .int .i64 l5, .int .i64 m5] 28 := ⟨_, rfl⟩
  have hb6 := hb5.alloc hb5.size Y
  have HB3 := Lib.hid (low_more HB2.out hb6)
  have HD3 := Lib.hid (And.intro (below_cell HD2.out.1 hb6) (And.intro (below_cell HD2.out.2.1 hb6) (blk_low HD2.out.2.2 hb6)))
  have HE3 := Lib.hid (And.intro (HE2.out.1.below hb6) (blk_low HE2.out.2 hb6))
  clear hb5 hb6 HD2 HE2 HB2
  simp only [qryC, rnC, List.cons_append, List.nil_append]
  go_wp2_with fail
  rw [← hY]
  clear hY
  generalize w5.heap.size = q3
  generalize w5.alloc Y = w6 at HE3 HD3 HB3 ⊢
  clear w5 Y
  refine (HP.out w6 fx4 HB3.out (by decide)).mono ?_
  rintro e w7 ⟨v, rfl, ⟨⟨k7, f7, tv7, kv7⟩, rfl, hr⟩, hb7⟩
  rw [px4]
  obtain ⟨ta7, tn7, tc7, ka7, kn7, kc7, rfl, rfl⟩ := hr.slices
  clear hr
  obtain ⟨l7, hl7⟩ : ∃ l7, l7 = (parseX fx4).1.2.lim := ⟨_, rfl⟩
  obtain ⟨m7, hm7⟩ : ∃ m7, m7 = (parseX fx4).1.2.ord := ⟨_, rfl⟩
  rw [← hl7, ← hm7]
  clear hl7 hm7
  obtain ⟨Y, hY⟩ : ∃ Y : Obj, Y = .cells #[.int .i64 k7, .int .u8 f7, .slice ta7 tn7 tc7, .slice ka7 kn7 kc7, .int .i64 l7, .int .i64 m7] 28 := ⟨_, rfl⟩
  have hb8 := hb7.alloc hb7.size Y
  have HB4 := Lib.hid (low_more HB3.out hb8)
  have hd1 := below_cell HD3.out.1 hb8
  have hd2 := below_cell HD3.out.2.1 hb8
  have hq1 := blk_low HD3.out.2.2 hb8
  have ht2 := Lib.hid (HE3.out.1.below hb8)
  have hq2 := blk_low HE3.out.2 hb8
  rw [hX] at hq2
  clear hb7 hb8 HD3 HE3 HB3 hX
  simp only [qryC, rnC, List.cons_append, List.nil_append]
  go_upto_region 5 with fail
  rw [← hY]
  clear hY
  generalize w7.heap.size = q4
  generalize w7.alloc Y = w8 at ht2 hq1 hq2 hd1 hd2 HB4 ⊢
  clear w7 Y
  have c0 := cell_at hq1 0
  have c3 := cell_at hq1 3
  have c4 := cell_at hq1 4
  have e2 := cell_at hq2 2
  go_wp2_with fail
  refine (same_toks _ ta2 (some ⟨w8.heap.size, 0, none⟩) tc2 1 [(0, ⟨#[102, 111, 120]⟩, 0)] [(0, ⟨#[102, 111, 120]⟩, 0)] (ht2.out.below below_one) (readT_new w8 _ _) (by decide)).mono ?_
  rintro e w9 ⟨rfl, hb9⟩
  go_wp2_with fail
  go_ret
  exact ⟨rfl, low_more (low_new HB4.out) hb9⟩
end Go.Proofs.YtaaeooimalglaaaDoor
