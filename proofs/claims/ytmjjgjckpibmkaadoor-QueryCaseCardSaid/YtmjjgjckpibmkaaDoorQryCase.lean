/-
  Case plays no part for a query's tree. Over the program's own text.
-/
import Derived.Test.YtmjjgjckpibmkaaDoorQryWalkB
import Derived.Test.YtmjjgjckpibmkaaDoorFoldRef
namespace Go.Proofs.YtmjjgjckpibmkaaDoor
open Go.RowKit

set_option maxRecDepth 100000 in
/-- A cell of a row of runes turned. -/
theorem runes_set17 {w : World} {base g cap i : Nat} {L : List Nat} {x : Nat} (h : RunesIn w base (.slice (some ⟨g, 0, none⟩) L.length cap) L) (_hi : i < L.length) : RunesIn (w.setCell ⟨g, i, none⟩ (.int .i32 (x : Int))) base (.slice (some ⟨g, 0, none⟩) L.length cap) (L.set i x) := by
  rcases h.2 with ⟨h1, _⟩ | ⟨g', cap', cur, h1, hb, hg, hn, hm, hs, ht⟩
  · cases h1
  · injection h1 with h1 h2 h3
    injection h1 with h1
    injection h1 with h1 _ _
    subst h1 h3
    refine ⟨by simp, .inr ⟨g, cap, cur.setIfInBounds i (.int .i32 (x : Int)), by simp, hb, ?_, by simpa using hn, hm, by simpa using hs, ?_⟩⟩
    · simp [World.setCell, Array.getElem?_modify, hg]
    · simp only [Nat.mul_one] at ht ⊢
      rw [Array.toList_setIfInBounds, List.length_set, List.take_set, ht, List.map_set]
set_option maxRecDepth 100000 in
theorem runes_cell17 {w : World} {base g n cap i : Nat} {L : List Nat} {r : Nat} (h : RunesIn w base (.slice (some ⟨g, 0, none⟩) n cap) L) (hi : L[i]? = some r) : w.cell? ⟨g, i, none⟩ = some (.int .i32 (r : Int)) ∧ w.frozen? ⟨g, i, none⟩ = false := by
  rcases h.2 with ⟨h1, _⟩ | ⟨g', cap', cur, h1, hb, hg, hn, hm, hs, ht⟩
  · cases h1
  · injection h1 with h1 h2 h3
    injection h1 with h1
    injection h1 with h1 _ _
    subst h1
    have := World.ownsRow.cells h (g := g) rfl i (.int .i32 (r : Int)) (by simp [hi])
    rw [Addr.add_lit, Nat.zero_add] at this
    exact ⟨this, Lib.frozen_of_heap hg i⟩

set_option maxRecDepth 100000 in
/-- A text's case doesn't change what it comes to. -/
theorem case_x {s : ByteArray} (h : LowC (runesOf s)) (hs : s.size ≤ 100) : (textZ (ints ((runesOf s).map foldN))).size ≤ 1000000 ∧ parseX (textZ (ints ((runesOf s).map foldN))) = parseX s := by
  have hlow : ∀ c ∈ (runesOf s).map foldN, c < 128 := fun c hc => by
    obtain ⟨x, hx, rfl⟩ := List.mem_map.1 hc
    exact (fold_near x (h.low x hx)).1
  have hn : (ints ((runesOf s).map foldN)).map normR = (runesOf s).map foldN := norm_ints fun c hc => ok_low (hlow c hc)
  have hrl := (runesOf_many s).1
  have hsz : (textZ (ints ((runesOf s).map foldN))).size ≤ 100 := by
    rw [textZ_size, textB_textL, hn, text_lowf hlow, List.length_map]
    omega
  refine ⟨by omega, ?_⟩
  have hA := case_alike h
  unfold parseX
  rw [if_neg (by omega), if_neg (by omega), runes_textZ, hn]
  revert hA
  cases parseR (runesOf s) with
  | ok x l => cases parseR ((runesOf s).map foldN) with
    | ok y m => intro h; obtain ⟨h, -⟩ := h; subst h; rfl
    | err e => intro h; cases h
  | err e => cases parseR ((runesOf s).map foldN) with
    | ok y m => intro h; cases h
    | err f => intro h; cases h; rfl
/-- What was seen of the first runes. -/
def SeenC (L : List Nat) (i : Nat) : Prop := ∀ j c, j < i → L[j]? = some c → c < 128 ∧ ∀ k, j = k + 1 → L[k]? ≠ some 64
set_option maxRecDepth 100000 in
theorem SeenC.low {L : List Nat} (h : SeenC L L.length) : LowC L := by
  refine ⟨fun c hc => ?_, fun i hi => ?_⟩
  · obtain ⟨j, hj, rfl⟩ := List.getElem_of_mem hc
    exact (h j _ hj (List.getElem?_eq_getElem hj)).1
  · have hlt := (List.getElem?_eq_some_iff.1 hi).1
    rcases Nat.lt_or_ge (i + 1) L.length with h1 | h1
    · exact absurd hi ((h (i + 1) _ h1 (List.getElem?_eq_getElem h1)).2 i rfl)
    · omega
set_option maxRecDepth 100000 in
theorem SeenC.more {L : List Nat} {i r : Nat} (h : SeenC L i) (hr : L[i]? = some r) (h1 : r < 128) (h2 : ∀ k, i = k + 1 → L[k]? ≠ some 64) : SeenC L (i + 1) := by
  intro j c hj hc
  rcases Nat.lt_or_ge j i with h3 | h3
  · exact h j c h3 hc
  · obtain rfl : j = i := by omega
    rw [hr] at hc
    injection hc with hc
    subst hc
    exact ⟨h1, h2⟩
set_option maxRecDepth 100000 in
theorem fold_at {c : Nat} (h : c < 128) : foldN c = 64 ↔ c = 64 := by
  obtain ⟨_, _, h3, h4, _⟩ := fold_near c h
  constructor
  · intro h5; have := h4 (by omega); omega
  · intro h5; have := h3 (by omega); omega

set_option maxRecDepth 100000 in
set_option maxHeartbeats 4000000 in
theorem case17 (W : World) (hT : TQ W) (s : ByteArray) (hs : (s.size : Int) ≤ 9223372036854775807) :
    Calls Tryd.prog 4 #[.string s] W fun e w' => e = .returned (.bool true) ∧ Below W.heap.size W w' := by
  have HF := Lib.hid (fun wx (hb : Below W.heap.size W wx) => fixed17 wx (hT.below hb))
  have HP := Lib.hid (fun wx (s : ByteArray) (hb : Below W.heap.size W wx) (hs : s.size ≤ 1000000) => parse_any wx s (hT.below hb).1 (hT.below hb).2 hs)
  clear hT
  by_cases hlen : (100 : Int) < (s.size : Int)
  · go_enter Tryd.func4, Tryd.ntmps4
    go_wp2_with fail
    refine (HF.out W (Below.refl _ _)).mono ?_
    rintro e w1 ⟨rfl, hb1⟩
    go_wp2_with fail
    go_ret
    exact ⟨rfl, hb1⟩
  · have hle : s.size ≤ 1000000 := by omega
    have hrl := (runesOf_many s).1
    have hok := runesOf_ok s
    have HRun := Lib.hid (ref_runes W s hle)
    have HC := Lib.hid (fun (h : LowC (runesOf s)) => case_x h (show s.size ≤ 100 by omega))
    obtain ⟨y, hy⟩ : ∃ y, y = parseX s := ⟨_, rfl⟩
    rw [← hy] at HC
    have HY := Lib.hid hy
    have HLe := Lib.hid hle
    obtain ⟨L, hL⟩ : ∃ L, L = runesOf s := ⟨_, rfl⟩
    rw [← hL] at HRun HC hrl hok
    have HTx := Lib.hid (fun (w : World) (oa : Option Addr) (c : Nat) (h : ReadI w oa (ints (L.map foldN))) => ref_text w oa c (ints (L.map foldN)) h (by rw [ints_length, List.length_map]; omega))
    generalize textZ (ints (L.map foldN)) = tz at HTx HC
    have HOk := Lib.hid hok
    obtain ⟨n, hn⟩ : ∃ n, L.length = n := ⟨_, rfl⟩
    have HN := Lib.hid hn
    have hn5 : n ≤ 100 := by omega
    clear hle hrl hok hn hs hy hL
    go_enter Tryd.func4, Tryd.ntmps4
    go_wp2_with fail
    refine HRun.out.mono ?_
    rintro e w1 ⟨v, rfl, hnn, hr, hb⟩
    obtain ⟨g, cap, rfl⟩ : ∃ g cap, v = .slice (some ⟨g, 0, none⟩) n cap := by
      rcases hr.2 with ⟨h1, _⟩ | ⟨g, cap, cur, h1, _⟩
      · exact absurd h1 hnn
      · exact ⟨g, cap, by rw [h1, HN.out]⟩
    have hgW : W.heap.size ≤ g := (World.ownsRow.lt hr g rfl).1
    have HR := Lib.hid hr
    have HB := Lib.hid hb
    clear hr hb hnn HRun
    go_wp2_with fail
    go_loopw [19] (fun iv wr => ∃ i : Nat, i ≤ n ∧ iv = .int .i64 i ∧ SeenC L i ∧ RunesIn wr W.heap.size (.slice (some ⟨g, 0, none⟩) n cap) ((L.take i).map foldN ++ L.drop i) ∧ Below W.heap.size W wr) (fun iv _ => n - (intOf iv).toNat)
    case atStart => exact ⟨0, by omega, rfl, fun j c hj => absurd hj (by omega), by simpa using HR.out, HB.out⟩
    case round =>
      obtain ⟨i, hi, rfl, hS, hR, hB⟩ := hrel
      by_cases hlt : i < n
      · obtain ⟨r, hr⟩ : ∃ r, L[i]? = some r := ⟨_, List.getElem?_eq_getElem (by rw [HN.out]; exact hlt)⟩
        have hil : i < L.length := by rw [HN.out]; exact hlt
        have hlm : ((L.take i).map foldN).length = i := by rw [List.length_map, List.length_take]; omega
        have hget : ((L.take i).map foldN ++ L.drop i)[i]? = some r := by
          rw [List.getElem?_append_right (by omega), hlm, Nat.sub_self, List.getElem?_drop, Nat.add_zero, hr]
        obtain ⟨c0, f0⟩ := runes_cell17 hR hget
        by_cases h127 : r < 128
        · have h127i : ¬ (127 : Int) < (r : Int) := by omega
          have hlen2 : ((L.take i).map foldN ++ L.drop i).length = n := by rw [List.length_append, hlm, List.length_drop, HN.out]; omega
          have hnew : ((L.take i).map foldN ++ L.drop i).set i (foldN r) = (L.take (i + 1)).map foldN ++ L.drop (i + 1) := by
            rw [List.set_append_right _ _ (by omega), hlm, Nat.sub_self, List.take_add_one, hr, List.drop_eq_getElem_cons hil, List.set_cons_zero, Option.toList_some, List.map_append, List.append_assoc]
            rfl
          have HFo := Lib.hid (fun w => ref_fold w (r : Int))
          rw [← (fold_ok (HOk.out r (List.mem_of_getElem? hr))).1] at HFo
          have HNext := Lib.hid (show RunesIn (wr.setCell ⟨g, i, none⟩ (.int .i32 ((foldN r : Nat) : Int))) W.heap.size (.slice (some ⟨g, 0, none⟩) n cap) ((L.take (i + 1)).map foldN ++ L.drop (i + 1)) by
            rw [← hnew]
            have h := hR
            rw [← hlen2] at h ⊢
            exact runes_set17 h (by rw [hlen2]; exact hlt))
          have HBn := Lib.hid (hB.setCell (p := ⟨g, i, none⟩) hgW (.int .i32 ((foldN r : Nat) : Int)))
          have HBw := Lib.hid hB
          have HSm := Lib.hid (fun h2 => hS.more hr h127 h2)
          rcases i with _ | j
          · clear hR hB hr hget hnew hlen2 hil hlm hS
            go_wp2_with fail
            refine (HFo.out _).mono ?_; rintro e w5 ⟨rfl, rfl⟩
            go_wp2_with fail
            go_roundw
            case rel => exact ⟨1, by omega, by go_num, HSm.out (fun k hk => by omega), HNext.out, HBn.out⟩
            case measure => simp [intOf]; omega
          · obtain ⟨p, hp⟩ : ∃ p, L[j]? = some p := ⟨_, List.getElem?_eq_getElem (by omega)⟩
            have hp128 := (hS j p (by omega) hp).1
            have hgp : ((L.take (j + 1)).map foldN ++ L.drop (j + 1))[j]? = some (foldN p) := by
              rw [List.getElem?_append_left (by omega), List.getElem?_map, List.getElem?_take, if_pos (by omega), hp]
              rfl
            obtain ⟨c1, f1⟩ := runes_cell17 hR hgp
            have hat := fold_at hp128
            by_cases h64 : p = 64
            · have hx : foldN p = 64 := hat.2 h64
              rw [hx] at c1
              clear hR hB hr hget hnew hlen2 hil hlm hS hp hgp hat hx
              go_wp2_with fail
              refine (HF.out _ HBw.out).mono ?_
              rintro e w5 ⟨rfl, hb5⟩
              go_wp2_with fail
              try rw [Exit.noGoto_ret]
              go_ret
              exact ⟨rfl, low_more HBw.out hb5⟩
            · have hx : ¬ ((foldN p : Nat) : Int) = 64 := by have := fun h => h64 (hat.1 h); omega
              have HPv := Lib.hid (show L[j]? ≠ some 64 by rw [hp]; simpa using h64)
              generalize ((foldN p : Nat) : Int) = x at c1 hx
              clear hR hB hr hget hnew hlen2 hil hlm hS hp hgp hat
              go_wp2_with fail
              refine (HFo.out _).mono ?_; rintro e w5 ⟨rfl, rfl⟩
              go_wp2_with fail
              go_roundw
              case rel => exact ⟨j + 1 + 1, by omega, by go_num, HSm.out (fun k hk => by obtain rfl : k = j := (by omega); exact HPv.out), HNext.out, HBn.out⟩
              case measure => simp [intOf]; omega
        · have h127i : (127 : Int) < (r : Int) := by omega
          have HBw := Lib.hid hB
          clear hR hB hr hget hil hlm hS
          go_wp2_with fail
          refine (HF.out _ HBw.out).mono ?_
          rintro e w5 ⟨rfl, hb5⟩
          go_wp2_with fail
          try rw [Exit.noGoto_ret]
          go_ret
          exact ⟨rfl, low_more HBw.out hb5⟩
      · have hi' : n = i := by omega
        rw [show L.take i = L from List.take_of_length_le (by rw [HN.out]; omega), show L.drop i = [] from List.drop_eq_nil_of_le (by rw [HN.out]; omega), List.append_nil] at hR
        have hlow : LowC L := SeenC.low (by rw [HN.out, hi']; exact hS)
        have HCx := Lib.hid (HC.out hlow)
        obtain ⟨oa, ca, hv, hrd⟩ : ∃ oa ca, Value.slice (some ⟨g, 0, none⟩) n cap = .slice oa n ca ∧ ReadI wr oa (ints (L.map foldN)) := by
          obtain ⟨g2, cap2, h1, _, _, _, _, h2⟩ := runes_read hR (by simp)
          refine ⟨some ⟨g2, 0, none⟩, cap2, ?_, h2⟩
          rw [h1, List.length_map, HN.out]
        injection hv with hv1 _ hv3
        subst hv1 hv3
        have HRd := Lib.hid hrd
        have HB1 := Lib.hid hB
        have hln : (ints (L.map foldN)).length = n := by rw [ints_length, List.length_map, HN.out]
        rw [hln] at HTx
        clear hR hB hrd hln hi' hlow hS HC
        go_wp2_with fail
        refine (HP.out wr s HB1.out HLe.out).mono ?_
        rintro e w2 ⟨v, rfl, ⟨⟨k5, f5, tv5, kv5⟩, rfl, hr⟩, hb2⟩
        rw [← HY.out] at hr ⊢
        obtain ⟨ta5, tn5, tc5, ka5, kn5, kc5, rfl, rfl⟩ := hr.slices
        obtain ⟨l5, hl5⟩ : ∃ l5, l5 = y.1.2.lim := ⟨_, rfl⟩
        obtain ⟨m5, hm5⟩ : ∃ m5, m5 = y.1.2.ord := ⟨_, rfl⟩
        obtain ⟨c5, hc5⟩ : ∃ c5, c5 = y.2 := ⟨_, rfl⟩
        rw [← hl5, ← hm5, ← hc5]
        have HL5 := Lib.hid (And.intro hl5 (And.intro hm5 hc5))
        clear hl5 hm5 hc5
        obtain ⟨X, hX⟩ : ∃ X : Obj, X = .cells #[.int .i64 k5, .int .u8 f5, .slice ta5 tn5 tc5, .slice ka5 kn5 kc5, .int .i64 l5, .int .i64 m5] 28 := ⟨_, rfl⟩
        have hb3 := hb2.alloc hb2.size X
        have HB2 := Lib.hid (low_more HB1.out hb3)
        have HR1 := Lib.hid (And.intro (hr.after (below_one (w := w2) (A := X))) (heap_alloc_new w2 X))
        have HRd2 := Lib.hid (HRd.out.below hb3)
        clear hb2 hb3 hr
        simp only [qryC, rnC, List.cons_append, List.nil_append]
        go_upto_region 12 with fail
        rw [← hX]
        generalize w2.heap.size = q1 at HR1 ⊢
        generalize w2.alloc X = w3 at HR1 HB2 HRd2 ⊢
        clear w2
        go_wp2_with fail
        refine (HTx.out _ _ _ HRd2.out).mono ?_
        rintro e w4 ⟨rfl, hb4⟩
        have HB3 := Lib.hid (low_more HB2.out hb4)
        have HR2 := Lib.hid (And.intro (HR1.out.1.after hb4) (blk_low HR1.out.2 hb4))
        clear hb4 HR1
        go_wp2_with fail
        refine (HP.out w4 tz HB3.out HCx.out.1).mono ?_
        rintro e w5 ⟨v, rfl, ⟨⟨k6, f6, tv6, kv6⟩, rfl, hr⟩, hb5⟩
        rw [HCx.out.2] at hr ⊢
        rw [← HL5.out.1, ← HL5.out.2.1, ← HL5.out.2.2]
        obtain ⟨ta6, tn6, tc6, ka6, kn6, kc6, rfl, rfl⟩ := hr.slices
        obtain ⟨Y, hY⟩ : ∃ Y : Obj, Y = .cells #[.int .i64 k6, .int .u8 f6, .slice ta6 tn6 tc6, .slice ka6 kn6 kc6, .int .i64 l5, .int .i64 m5] 28 := ⟨_, rfl⟩
        have hb6 := hb5.alloc hb5.size Y
        have HB4 := Lib.hid (low_more HB3.out hb6)
        have HR3 := Lib.hid (And.intro (hr.after (below_one (w := w5) (A := Y))) (HR2.out.1.after hb6))
        have hq1 := blk_low HR2.out.2 hb6
        have hq2 := heap_alloc_new w5 Y
        rw [hX] at hq1
        clear hb5 hb6 hr HR2
        simp only [qryC, rnC, List.cons_append, List.nil_append]
        go_upto_region 13 with fail
        rw [← hY]
        generalize w5.heap.size = q2 at hq2 ⊢
        generalize w5.alloc Y = w6 at HR3 HB4 hq1 hq2 ⊢
        rw [hY] at hq2
        clear w5
        have c0 := cell_at hq1 0
        have d0 := cell_at hq2 0
        have c1 := cell_at hq1 1
        have d1 := cell_at hq2 1
        have c2 := cell_at hq1 2
        have d2 := cell_at hq2 2
        have c3 := cell_at hq1 3
        have d3 := cell_at hq2 3
        go_wp2_with fail
        have HNs := same_node y.1.1 (by rw [HY.out]; exact few_x) w6 _ _ _ _ HR3.out.2 HR3.out.1
        refine HNs.mono ?_
        rintro e w7 ⟨rfl, hb7⟩
        have HB5 := Lib.hid (low_more HB4.out hb7)
        go_wp2_with fail
        refine (HF.out w7 HB5.out).mono ?_
        rintro e w8 ⟨rfl, hb8⟩
        go_wp2_with fail
        try rw [Exit.noGoto_ret]
        go_ret
        exact ⟨rfl, low_more HB5.out hb8⟩
end Go.Proofs.YtmjjgjckpibmkaaDoor
