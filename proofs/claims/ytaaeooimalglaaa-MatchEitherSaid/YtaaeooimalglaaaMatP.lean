/-
  Layer 18's statement of Nots. Over the program's own text.
-/
import Derived.Test.YtaaeooimalglaaaMatO
import Derived.Test.YtaaeooimalglaaaMatK
import Derived.Test.YtaaeooimalglaaaNodeGreat
namespace Go.Proofs.Ytaaeooimalglaaa
open Go.RowKit

theorem few_not {x : Nd} (h : FewN x) : FewN (.mk 4 0 [] [x]) := .mk (by simp) (by simp) fun y hy => by
  have : y = x := by simpa using hy
  subst this
  exact h
def noN : Nd → Nd := fun x => .mk 4 0 [] [x]
set_option maxRecDepth 100000 in
set_option maxHeartbeats 16000000 in
theorem nots18 (W : World) (x : Nd) (r : Rn) (v lv : Value) (docs : List Int) (L : List (List Fo)) (hx : RdN W (fun _ => True) x r) (hre : ReachN x) (hv : RdP W v docs) (hl : LvsAt W lv L) (hll : ∀ l ∈ L, l.length ≤ reachBytes) :
    Calls Try.prog 4 #[rnV r, v, lv] W fun e w' => e = .returned (.bool true) ∧ Below W.heap.size W w' := by
  have HGr := Lib.hid (fun wx (hb : Below W.heap.size W wx) => great_any wx _ x r (hx.after hb) hre)
  have HRi := Lib.hid (fun wx (hb : Below W.heap.size W wx) => risen_any wx v lv docs L (RdP.below hv hb) (hl.below hb) hll)
  have HIn := Lib.hid (And.intro hx (And.intro hv hl))
  obtain ⟨k0, f0, tv, kv⟩ := r
  obtain ⟨ta, tn, tc, ka, kn, kc, rfl, rfl⟩ := hx.slices
  obtain ⟨va, vn, vc, rfl, hvn⟩ : ∃ va vn vc, v = .slice va vn vc ∧ vn = docs.length := by
    obtain ⟨va, vc, h, _⟩ := hv
    exact ⟨va, _, vc, h, rfl⟩
  obtain ⟨la, ln, lc, rfl⟩ : ∃ la ln lc, lv = .slice la ln lc := by
    obtain ⟨la, lc, h, _⟩ := hl
    exact ⟨la, _, lc, h⟩
  have HVn := Lib.hid hvn
  clear hx hre hv hl hll hvn
  rw [show rnV (k0, f0, .slice ta tn tc, .slice ka kn kc) = .agg #[.int .i64 k0, .int .u8 f0, .slice ta tn tc, .slice ka kn kc] from rfl] at HGr ⊢
  go_enter Try.func4, Try.ntmps4
  go_upto_region 1 with fail
  have hx1 := heap_alloc_new W (.cells #[.int .i64 k0, .int .u8 f0, .slice ta tn tc, .slice ka kn kc] 31)
  have HB1 := Lib.hid (And.intro (below_one (w := W) (A := .cells #[.int .i64 k0, .int .u8 f0, .slice ta tn tc, .slice ka kn kc] 31)) hx1)
  clear hx1
  generalize hbx : W.heap.size = bx at HB1 ⊢
  have HBx := Lib.hid hbx
  rw [← hbx] at HB1
  clear hbx
  generalize W.alloc (.cells #[.int .i64 k0, .int .u8 f0, .slice ta tn tc, .slice ka kn kc] 31) = w1 at HB1 ⊢
  rw [HBx.out] at HB1
  have c0 := cell_at HB1.out.2 0
  have c1 := cell_at HB1.out.2 1
  have c2 := cell_at HB1.out.2 2
  have c3 := cell_at HB1.out.2 3
  simp only [List.getElem?_toArray, List.getElem?_cons_zero, List.getElem?_cons_succ] at c0 c1 c2 c3
  rw [HBx.out] at HGr HRi
  go_wp2_with fail
  refine (HGr.out w1 HB1.out.1).mono ?_
  rintro e w3 ⟨⟨b, rfl, hb⟩, hb3⟩
  have HB3 := Lib.hid (And.intro (show Below bx W w3 by rw [← HBx.out]; exact low_more (by rw [HBx.out]; exact HB1.out.1) hb3) (blk_keep HB1.out.2 hb3))
  clear hb3 c0 c1 c2 c3 HB1 w1 HGr
  cases b with
  | true =>
    have HF := Lib.hid (fixed18 w3)
    clear hb
    go_wp2_with fail
    refine HF.out.mono ?_
    rintro e w4 ⟨rfl, hb4⟩
    have HB4 := Lib.hid (HB3.out.1.trans (hb4.mono (by have := HB3.out.1.size; have := HBx.out; omega)))
    clear hb4
    go_wp2_with fail
    go_ret
    exact ⟨rfl, by have := HB4.out; rw [← HBx.out] at this; exact this⟩
  | false =>
    have HFew := Lib.hid (hb rfl)
    clear hb
    go_wp2_with fail
    refine (HRi.out w3 HB3.out.1).mono ?_
    rintro e w4 ⟨⟨b, rfl, hb⟩, hb4⟩
    have HB4 := Lib.hid (And.intro (HB3.out.1.trans (hb4.mono (by have := HB3.out.1.size; have := HBx.out; omega))) (blk_keep HB3.out.2 hb4))
    clear hb4 HB3 w3 HRi
    cases b with
    | false =>
      have HF := Lib.hid (fixed18 w4)
      clear hb
      go_wp2_with fail
      refine HF.out.mono ?_
      rintro e w5 ⟨rfl, hb5⟩
      have HB5 := Lib.hid (HB4.out.1.trans (hb5.mono (by have := HB4.out.1.size; have := HBx.out; omega)))
      clear hb5
      go_wp2_with fail
      go_ret
      exact ⟨rfl, by have := HB5.out; rw [← HBx.out] at this; exact this⟩
    | true =>
      have HOk := Lib.hid (hb rfl)
      clear hb
      have c0 := cell_at HB4.out.2 0
      have c1 := cell_at HB4.out.2 1
      have c2 := cell_at HB4.out.2 2
      have c3 := cell_at HB4.out.2 3
      simp only [List.getElem?_toArray, List.getElem?_cons_zero, List.getElem?_cons_succ] at c0 c1 c2 c3
      go_upto_region 4 with fail
      have hq0 := heap2_0 w4 (.cells #[.int .i64 k0, .int .u8 f0, .slice ta tn tc, .slice ka kn kc] 31) (.cells #[.int .i64 4, .int .u8 0, .slice none 0 0, .slice (some ⟨w4.heap.size, 0, none⟩) 1 1] 31)
      have hq1 := heap2_1 w4 (.cells #[.int .i64 k0, .int .u8 f0, .slice ta tn tc, .slice ka kn kc] 31) (.cells #[.int .i64 4, .int .u8 0, .slice none 0 0, .slice (some ⟨w4.heap.size, 0, none⟩) 1 1] 31)
      have hb2 := below_al2 (w := w4) (A := .cells #[.int .i64 k0, .int .u8 f0, .slice ta tn tc, .slice ka kn kc] 31) (B := .cells #[.int .i64 4, .int .u8 0, .slice none 0 0, .slice (some ⟨w4.heap.size, 0, none⟩) 1 1] 31)
      have HX := Lib.hid (And.intro (blk_keep HB4.out.2 hb2) (And.intro hq1 (And.intro hq0 (show Below W.heap.size W _ from (show Below W.heap.size W w4 by rw [HBx.out]; exact HB4.out.1).trans (hb2.mono (by have := HB4.out.1.size; exact this))))))
      clear hq0 hq1 hb2 c0 c1 c2 c3
      generalize w4.heap.size = gn at HX ⊢
      have hgn : gn + 1 = gn + 1 := rfl
      generalize (w4.alloc (.cells #[.int .i64 k0, .int .u8 f0, .slice ta tn tc, .slice ka kn kc] 31)).alloc (.cells #[.int .i64 4, .int .u8 0, .slice none 0 0, .slice (some ⟨gn, 0, none⟩) 1 1] 31) = w2 at HX ⊢
      clear hgn HB4
      have HE1 := Lib.hid (show ∀ wx, Below w2.heap.size w2 wx → Calls Try.prog 15 #[.agg #[.int .i64 k0, .int .u8 f0, .slice ta tn tc, .slice ka kn kc], .slice va vn vc, .slice la ln lc] wx fun e w' => ∃ u, e = .returned u ∧ OwnZ w' wx.heap.size u (docs.filter (semN x L)) ∧ Below wx.heap.size wx w' from fun wx hb => by
        have hW := low_more HX.out.2.2.2 hb
        exact eval_any wx _ x (k0, f0, .slice ta tn tc, .slice ka kn kc) _ _ docs L (HIn.out.1.after hW) HFew.out (RdP.below HIn.out.2.1 hW) (HIn.out.2.2.below hW) HOk.out.docs HOk.out.lists (by have := HOk.out.few; omega))
      have HNt := Lib.hid (show ∀ wx, Below w2.heap.size w2 wx → RdN wx (fun _ => True) (.mk 4 0 [] [x]) (4, 0, .slice none 0 0, .slice (some ⟨gn, 0, none⟩) 1 1) from fun wx hb =>
        turned (HIn.out.1.after (low_more HX.out.2.2.2 hb)) (blk_keep HX.out.2.2.1 hb) (fun _ h => h) trivial)
      have HE2 := Lib.hid (show ∀ wx, Below w2.heap.size w2 wx → Calls Try.prog 15 #[.agg #[.int .i64 4, .int .u8 0, .slice none 0 0, .slice (some ⟨gn, 0, none⟩) 1 1], .slice va vn vc, .slice la ln lc] wx fun e w' => ∃ u, e = .returned u ∧ OwnZ w' wx.heap.size u (docs.filter fun d => !semN x L d) ∧ Below wx.heap.size wx w' from fun wx hb => by
        have hW := low_more HX.out.2.2.2 hb
        have := eval_any wx _ (.mk 4 0 [] [x]) (4, 0, .slice none 0 0, .slice (some ⟨gn, 0, none⟩) 1 1) _ _ docs L (HNt.out wx hb) (few_not HFew.out) (RdP.below HIn.out.2.1 hW) (HIn.out.2.2.below hW) HOk.out.docs HOk.out.lists (by have := HOk.out.few; omega)
        rw [not_one] at this
        exact this)
      refine wp_region_cl (fun (p : Value × Value) jz => [.agg #[.int .i64 k0, .int .u8 f0, .slice ta tn tc, .slice ka kn kc], .slice va vn vc, .slice la ln lc, p.1, .agg #[.int .i64 4, .int .u8 0, .slice none 0 0, .slice (some ⟨gn, 0, none⟩) 1 1], .slice va vn vc, .slice la ln lc, p.2, p.1, p.2].getD jz undef)
        (fun p l wx => Below w2.heap.size w2 wx ∧ (l 3 = true → OwnZ wx w2.heap.size p.1 (docs.filter (semN x L))) ∧ (l 7 = true → OwnZ wx w2.heap.size p.2 (docs.filter fun d => !semN x L d)))
        (by kernel_rfl) (by kernel_rfl) (fun q => by simp only [putTo, dstOf, Act.put, List.size_toArray, List.length_cons, List.length_nil, List.getElem?_toArray, Nat.reduceAdd, Option.bind_some, List.getElem?_cons_zero, List.getElem?_cons_succ, List.setIfInBounds_toArray, List.set_cons_zero, List.set_cons_succ, List.getD_cons_zero, List.getD_cons_succ]; exact rfl) (.slice none 0 0, .slice none 0 0) ?_ ?_ ?_
      · exact ⟨(Below.refl _ _).drew, fun h => (by cases h), fun h => (by cases h)⟩
      · intro i o ho p l wx hR hl he hcl K hK
        rcases i with _ | _ | _ | _ | _ | _ | _ | _ | _ | _ | i
        · obtain rfl : _ = o := Option.some.inj ho
          have q0 := cell_at (blk_keep HX.out.1 hR.1) 0
          have q1 := cell_at (blk_keep HX.out.1 hR.1) 1
          have q2 := cell_at (blk_keep HX.out.1 hR.1) 2
          have q3 := cell_at (blk_keep HX.out.1 hR.1) 3
          simp only [List.getElem?_toArray, List.getElem?_cons_zero, List.getElem?_cons_succ] at q0 q1 q2 q3
          go_simp
          exact hK p wx (fun _ _ => rfl) ⟨hR.1, fun h => hR.2.1 (by simpa using h), fun h => hR.2.2 (by simpa using h)⟩
        · obtain rfl : _ = o := Option.some.inj ho
          go_simp
          exact hK p wx (fun _ _ => rfl) ⟨hR.1, fun h => hR.2.1 (by simpa using h), fun h => hR.2.2 (by simpa using h)⟩
        · obtain rfl : _ = o := Option.some.inj ho
          go_simp
          exact hK p wx (fun _ _ => rfl) ⟨hR.1, fun h => hR.2.1 (by simpa using h), fun h => hR.2.2 (by simpa using h)⟩
        · obtain rfl : _ = o := Option.some.inj ho
          have HRr := Lib.hid hR
          have HQ := Lib.hid (HE1.out wx hR.1)
          clear hR
          go_simp
          refine HQ.out.mono ?_
          rintro e wy ⟨u, rfl, hu, hb⟩
          refine hK (u, p.2) wy (fun j hj => ?_) ⟨low_more HRr.out.1 hb, fun _ => own_mono hu HRr.out.1.size, fun h => owned_below (HRr.out.2.2 (by simpa using h)) hb⟩
          rcases j with _ | _ | _ | _ | _ | _ | _ | _ | _ | _ | j
          all_goals first | rfl | (rw [hl] at hj; cases hj) | (exact absurd (hcl 8 _ rfl hj ⟨3, .data⟩ (by simp) rfl) (by rw [hl]; decide))
        · obtain rfl : _ = o := Option.some.inj ho
          have q0 := cell_at (blk_keep HX.out.2.1 hR.1) 0
          have q1 := cell_at (blk_keep HX.out.2.1 hR.1) 1
          have q2 := cell_at (blk_keep HX.out.2.1 hR.1) 2
          have q3 := cell_at (blk_keep HX.out.2.1 hR.1) 3
          simp only [List.getElem?_toArray, List.getElem?_cons_zero, List.getElem?_cons_succ] at q0 q1 q2 q3
          go_simp
          exact hK p wx (fun _ _ => rfl) ⟨hR.1, fun h => hR.2.1 (by simpa using h), fun h => hR.2.2 (by simpa using h)⟩
        · obtain rfl : _ = o := Option.some.inj ho
          go_simp
          exact hK p wx (fun _ _ => rfl) ⟨hR.1, fun h => hR.2.1 (by simpa using h), fun h => hR.2.2 (by simpa using h)⟩
        · obtain rfl : _ = o := Option.some.inj ho
          go_simp
          exact hK p wx (fun _ _ => rfl) ⟨hR.1, fun h => hR.2.1 (by simpa using h), fun h => hR.2.2 (by simpa using h)⟩
        · obtain rfl : _ = o := Option.some.inj ho
          have HRr := Lib.hid hR
          have HQ := Lib.hid (HE2.out wx hR.1)
          clear hR
          go_simp
          refine HQ.out.mono ?_
          rintro e wy ⟨u, rfl, hu, hb⟩
          refine hK (p.1, u) wy (fun j hj => ?_) ⟨low_more HRr.out.1 hb, fun h => owned_below (HRr.out.2.1 (by simpa using h)) hb, fun _ => own_mono hu HRr.out.1.size⟩
          rcases j with _ | _ | _ | _ | _ | _ | _ | _ | _ | _ | j
          all_goals first | rfl | (rw [hl] at hj; cases hj) | (exact absurd (hcl 9 _ rfl hj ⟨7, .data⟩ (by simp) rfl) (by rw [hl]; decide))
        · obtain rfl : _ = o := Option.some.inj ho
          go_simp
          exact hK p wx (fun _ _ => rfl) ⟨hR.1, fun h => hR.2.1 (by simpa using h), fun h => hR.2.2 (by simpa using h)⟩
        · obtain rfl : _ = o := Option.some.inj ho
          go_simp
          exact hK p wx (fun _ _ => rfl) ⟨hR.1, fun h => hR.2.1 (by simpa using h), fun h => hR.2.2 (by simpa using h)⟩
        · simp at ho
      · intro p l wx hl hR
        have HRr := Lib.hid (show Below w2.heap.size w2 wx ∧ OwnZ wx w2.heap.size p.1 (docs.filter (semN x L)) ∧ OwnZ wx w2.heap.size p.2 (docs.filter fun d => !semN x L d) from ⟨hR.1, hR.2.1 (hl 3 (by decide)), hR.2.2 (hl 7 (by decide))⟩)
        clear hR hl HE1 HE2
        obtain ⟨a, b⟩ := p
        obtain ⟨aa, ac, ha, _, _, _, har⟩ := HRr.out.2.1.reads
        obtain ⟨ba, bc, hb, _, _, _, hbr⟩ := HRr.out.2.2.reads
        obtain ⟨P, hP⟩ : ∃ P, P = semN x L := ⟨_, rfl⟩
        have HP := Lib.hid hP
        obtain ⟨an, han⟩ : ∃ an, an = (docs.filter P).length := ⟨_, rfl⟩
        obtain ⟨bn, hbn⟩ : ∃ bn, bn = (docs.filter fun d => !P d).length := ⟨_, rfl⟩
        have hd100 : docs.length ≤ 100 := HOk.out.few
        have hal : an ≤ docs.length := by rw [han]; exact List.length_filter_le _ _
        have hbl : bn ≤ docs.length := by rw [hbn]; exact List.length_filter_le _ _
        rw [← HVn.out] at hd100 hal hbl
        rw [← hP] at ha hb har hbr HRr
        rw [← han] at ha
        rw [← hbn] at hb
        simp only at ha hb
        subst ha hb
        have HA := Lib.hid (And.intro har han)
        have HBb := Lib.hid (And.intro hbr hbn)
        have HW := Lib.hid (low_more HX.out.2.2.2 HRr.out.1)
        have HXn := Lib.hid (blk_keep HX.out.2.1 HRr.out.1)
        have HNw := Lib.hid (HNt.out wx HRr.out.1)
        have HAr := Lib.hid (show RdP wx (.slice aa an ac) (docs.filter P) from HRr.out.2.1.reads)
        clear har hbr han hbn hP HNt HX HRr
        clear w2
        have c0 := cell_at HXn.out 0
        have c1 := cell_at HXn.out 1
        have c2 := cell_at HXn.out 2
        have c3 := cell_at HXn.out 3
        simp only [List.getElem?_toArray, List.getElem?_cons_zero, List.getElem?_cons_succ] at c0 c1 c2 c3
        have HE3 := Lib.hid (show Calls Try.prog 15 #[.agg #[.int .i64 4, .int .u8 0, .slice none 0 0, .slice (some ⟨wx.heap.size, 0, none⟩) 1 1], .slice va vn vc, .slice la ln lc] (wx.alloc (.cells #[.int .i64 4, .int .u8 0, .slice none 0 0, .slice (some ⟨gn, 0, none⟩) 1 1] 31)) fun e w' => ∃ u, e = .returned u ∧ OwnZ w' (wx.alloc (.cells #[.int .i64 4, .int .u8 0, .slice none 0 0, .slice (some ⟨gn, 0, none⟩) 1 1] 31)).heap.size u (docs.filter P) ∧ Below (wx.alloc (.cells #[.int .i64 4, .int .u8 0, .slice none 0 0, .slice (some ⟨gn, 0, none⟩) 1 1] 31)).heap.size (wx.alloc (.cells #[.int .i64 4, .int .u8 0, .slice none 0 0, .slice (some ⟨gn, 0, none⟩) 1 1] 31)) w' from by
          have hW := low_more HW.out (below_one (w := wx) (A := .cells #[.int .i64 4, .int .u8 0, .slice none 0 0, .slice (some ⟨gn, 0, none⟩) 1 1] 31))
          have := eval_any _ _ (.mk 4 0 [] [.mk 4 0 [] [x]]) (4, 0, .slice none 0 0, .slice (some ⟨wx.heap.size, 0, none⟩) 1 1) _ _ docs L (turned (HNw.out.after below_one) (heap_alloc_new wx _) (fun _ h => h) trivial) (few_not (few_not HFew.out)) (RdP.below HIn.out.2.1 hW) (HIn.out.2.2.below hW) HOk.out.docs HOk.out.lists (by have := HOk.out.few; omega)
          rw [not_two, ← HP.out] at this
          exact this)
        go_wp2_with fail
        refine HE3.out.mono ?_
        rintro e w6 ⟨cv, rfl, hown, hb6⟩
        have hb7 := low_more below_one hb6
        have HC := Lib.hid (And.intro hown.reads (And.intro (RdP.below HAr.out hb7) (low_more HW.out hb7)))
        have HA6 := Lib.hid (And.intro (ReadZ.below HA.out.1 hb7) HA.out.2)
        have HB6 := Lib.hid (And.intro (ReadZ.below HBb.out.1 hb7) HBb.out.2)
        clear hown hb6 hb7 HE3 c0 c1 c2 c3 HXn HNw HA HBb HAr HW
        obtain ⟨ca, cn, cc, rfl⟩ : ∃ ca cn cc, cv = .slice ca cn cc := by
          obtain ⟨ca, cc, h, _⟩ := HC.out.1
          exact ⟨ca, _, cc, h⟩
        go_wp2_with fail
        go_loopg [11, 12, 43] vn (fun g s11 s12 s43 wr => ∃ j : Nat, j + g = vn ∧ s43 = .int .i64 (j : Int) ∧ s11 = .int .i64 (cntP P (docs.take j) : Int) ∧ s12 = .int .i64 (cntP (fun d => !P d) (docs.take j) : Int) ∧ wr = w6)
        case atStart => exact ⟨0, by omega, rfl, rfl, rfl, rfl⟩
        case round =>
          obtain ⟨j, hjg, rfl, rfl, rfl, rfl⟩ := hrel
          cases gk with
          | zero =>
            have hjv : vn = j := by omega
            have e1 : cntP P (docs.take j) = an := by rw [cnt_full (by rw [← HVn.out]; omega), HA6.out.2]
            have e2 : cntP (fun d => !P d) (docs.take j) = bn := by rw [cnt_full (by rw [← HVn.out]; omega), HB6.out.2]
            rw [e1, e2]
            have HF := Lib.hid (fixed18 wr)
            have HSm := Lib.hid (fun (wy : World) (hb : Below wr.heap.size wr wy) => same_ints wy (.slice ca cn cc) (.slice aa an ac) (docs.filter P) (RdP.below HC.out.1 hb) (RdP.below HC.out.2.1 hb) (by rw [← HA6.out.2]; omega))
            clear e1 e2
            subst hjv
            go_wp2_with fail
            refine HF.out.mono ?_
            rintro e w7 ⟨rfl, hb7⟩
            have HB7 := Lib.hid hb7
            clear hb7
            go_wp2_with fail
            refine (HSm.out w7 HB7.out).mono ?_
            rintro e w8 ⟨rfl, hb8⟩
            have HB8 := Lib.hid (low_more HC.out.2.2 (low_more HB7.out hb8))
            clear hb8
            go_wp2_with fail
            go_ret
            exact ⟨rfl, HB8.out⟩
          | succ g =>
            have hlt : j < vn := by omega
            obtain ⟨d, hd⟩ : ∃ d, docs[j]? = some d := ⟨_, List.getElem?_eq_getElem (by rw [← HVn.out]; exact hlt)⟩
            obtain ⟨gv, ov, hgv, k0⟩ : ∃ g o : Nat, va = some ⟨g, o, none⟩ ∧ wr.cell? ⟨g, o + j, none⟩ = some (.int .i64 d) := by
              obtain ⟨va2, vc2, h1, _, _, _, h2⟩ := RdP.below HIn.out.2.1 HC.out.2.2
              injection h1 with h1
              subst h1
              exact h2 j d hd
            subst hgv
            have hlti : (j : Int) < (vn : Int) := by omega
            have HCa := Lib.hid (And.intro (cnt_succ (p := P) hd) (cnt_succ (p := fun d => !P d) hd))
            have hca : cntP P (docs.take j) ≤ 100 := Nat.le_trans (List.length_filter_le _ _) (by rw [List.length_take]; omega)
            have hcb : cntP (fun d => !P d) (docs.take j) ≤ 100 := Nat.le_trans (List.length_filter_le _ _) (by rw [List.length_take]; omega)
            by_cases hp : P d = true
            · have h1 := filter_at (p := P) hd hp
              obtain ⟨ga, oa, hga, q0⟩ := HA6.out.1 _ _ h1
              subst hga
              have hia : cntP P (docs.take j) < an := by rw [HA6.out.2]; exact (List.getElem?_eq_some_iff.1 h1).1
              have HC1 := Lib.hid (show cntP P (docs.take (j + 1)) = cntP P (docs.take j) + 1 ∧ cntP (fun d => !P d) (docs.take (j + 1)) = cntP (fun d => !P d) (docs.take j) from ⟨by rw [HCa.out.1, hp]; rfl, by rw [HCa.out.2, hp]; rfl⟩)
              generalize cntP P (docs.take j) = ci at q0 hia HC1 hca ⊢
              generalize cntP (fun d => !P d) (docs.take j) = ck at HC1 hcb ⊢
              have hiai : (ci : Int) < (an : Int) := by omega
              clear h1 HCa hd hp
              go_wp2_with fail
              go_roundg g
              case measure => omega
              case rel => exact ⟨j + 1, by omega, by go_num, by rw [HC1.out.1]; go_num, by rw [HC1.out.2], rfl⟩
            · have hp2 : P d = false := by simpa using hp
              have h1 := filter_at (p := fun d => !P d) hd (by simp [hp2])
              obtain ⟨gb, ob, hgb, q1⟩ := HB6.out.1 _ _ h1
              subst hgb
              have hib : cntP (fun d => !P d) (docs.take j) < bn := by rw [HB6.out.2]; exact (List.getElem?_eq_some_iff.1 h1).1
              have HC1 := Lib.hid (show cntP P (docs.take (j + 1)) = cntP P (docs.take j) ∧ cntP (fun d => !P d) (docs.take (j + 1)) = cntP (fun d => !P d) (docs.take j) + 1 from ⟨by rw [HCa.out.1, hp2]; rfl, by rw [HCa.out.2, hp2]; rfl⟩)
              by_cases hia : cntP P (docs.take j) < an
              · obtain ⟨y, hy⟩ : ∃ y, (docs.filter P)[cntP P (docs.take j)]? = some y := ⟨_, List.getElem?_eq_getElem (by rw [← HA6.out.2]; exact hia)⟩
                obtain ⟨ga, oa, hga, q0⟩ := HA6.out.1 _ _ hy
                subst hga
                have hyd := filter_not hd hp2 hy
                have hyb : (y == d) = false := beq_eq_false_iff_ne.2 hyd
                generalize cntP P (docs.take j) = ci at q0 hia HC1 hca ⊢
                generalize cntP (fun d => !P d) (docs.take j) = ck at q1 hib HC1 hcb ⊢
                have hiai : (ci : Int) < (an : Int) := by omega
                have hibi : (ck : Int) < (bn : Int) := by omega
                clear h1 HCa hd hp hp2 hy
                go_wp2_with fail
                go_roundg g
                case measure => omega
                case rel => exact ⟨j + 1, by omega, by go_num, by rw [HC1.out.1], by rw [HC1.out.2]; go_num, rfl⟩
              · generalize cntP P (docs.take j) = ci at hia HC1 hca ⊢
                generalize cntP (fun d => !P d) (docs.take j) = ck at q1 hib HC1 hcb ⊢
                have hiai : ¬ (ci : Int) < (an : Int) := by omega
                have hibi : (ck : Int) < (bn : Int) := by omega
                clear h1 HCa hd hp hp2
                go_wp2_with fail
                go_roundg g
                case measure => omega
                case rel => exact ⟨j + 1, by omega, by go_num, by rw [HC1.out.1], by rw [HC1.out.2]; go_num, rfl⟩
end Go.Proofs.Ytaaeooimalglaaa
