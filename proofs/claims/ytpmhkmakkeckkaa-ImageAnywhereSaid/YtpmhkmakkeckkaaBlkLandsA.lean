/-
  The landed code of layer 13: whether numbers rise, whether a list may be, a block's bytes. Over the program's own text.
-/
import Derived.Test.YtpmhkmakkeckkaaEnts
import Derived.Test.YtpmhkmakkeckkaaRegion
import Derived.Test.YtpmhkmakkeckkaaVlqLands
namespace Go.Proofs.Ytpmhkmakkeckkaa
open Go.RowKit

set_option maxRecDepth 100000 in
set_option maxHeartbeats 2000000 in
theorem lands_rise (w : World) (oa : Option Addr) (c N : Nat) (l : List Int) (en : l.length = N) (ha : ReadZ w oa l) (hl : N ≤ 1000000) :
    Calls Try.prog 46 #[.slice oa N c] w fun e w' => e = .returned (.bool (riseB (-1) l)) ∧ w' = w := by
  have HA := Lib.hid ha
  have HN := Lib.hid en
  clear ha en
  go_enter Try.func46, Try.ntmps46
  go_wp2_with fail
  go_loopw [3, 8] (fun lv iv wr => ∃ (i : Nat) (a : Int), i ≤ N ∧ iv = .int .i64 (i : Int) ∧ lv = .int .i64 a ∧ Hid (riseB a (l.drop i) = riseB (-1) l) ∧ wr = w) (fun _ iv _ => N - (intOf iv).toNat)
  case atStart => exact ⟨0, -1, by omega, rfl, rfl, Lib.hid (by rw [List.drop_zero]), rfl⟩
  case round =>
    obtain ⟨i, a, hi, rfl, rfl, HR, hw⟩ := hrel
    have hw' := hw.symm
    subst hw'
    by_cases hlt : i < N
    · obtain ⟨x, hx⟩ : ∃ x, l[i]? = some x := ⟨_, List.getElem?_eq_getElem (by rw [HN.out]; exact hlt)⟩
      obtain ⟨g, o, rfl, c0⟩ := HA.out i x hx
      have hd : l.drop i = x :: l.drop (i + 1) := by
        obtain ⟨h1, h2⟩ := List.getElem?_eq_some_iff.1 hx
        rw [List.drop_eq_getElem_cons h1, h2]
      have HS := Lib.hid (show (if x ≤ a ∨ 65535 < x then false else riseB x (l.drop (i + 1))) = riseB (-1) l by rw [← HR.out, hd]; rfl)
      clear hx hd
      by_cases h1 : x ≤ a
      · have HE := Lib.hid (show riseB (-1) l = false by rw [← HS.out, if_pos (.inl h1)])
        go_wp2_with fail
        go_ret
        exact ⟨by rw [HE.out]; rfl, rfl⟩
      · by_cases h2 : 65535 < x
        · have HE := Lib.hid (show riseB (-1) l = false by rw [← HS.out, if_pos (.inr h2)])
          go_wp2_with fail
          go_ret
          exact ⟨by rw [HE.out]; rfl, rfl⟩
        · have HE := Lib.hid (show riseB x (l.drop (i + 1)) = riseB (-1) l by rw [← HS.out, if_neg (by omega)])
          go_wp2_with fail
          go_roundw
          case rel => exact ⟨i + 1, x, by omega, by go_num, rfl, HE, trivial⟩
          case measure => simp [intOf]; omega
    · obtain rfl : i = N := by omega
      have HE := Lib.hid (show riseB (-1) l = true by
        rw [← HR.out, List.drop_eq_nil_of_le (by have := HN.out; omega)]
        rfl)
      go_wp2_with fail
      go_ret
      exact ⟨by rw [HE.out]; rfl, rfl⟩

set_option maxRecDepth 100000 in
theorem may_split (l : List En) : MayE l ↔ l.length ≤ 64 ∧ (∀ i, i < l.length → 1 ≤ (enAt l i).2.length ∧ (enAt l i).2.length ≤ 256 ∧ riseB (-1) (enAt l i).2 = true) ∧ riseB (-1) (l.map (·.1)) = true := by
  constructor
  · intro h
    refine ⟨h.1, fun i hi => ?_, (rise_up _).2 fun k hk => (h.2 k (by simpa using hk)).1⟩
    obtain ⟨_, h1, h2, h3⟩ := h.2 i hi
    exact ⟨h1, h2, (rise_up _).2 h3⟩
  · rintro ⟨h1, h2, h3⟩
    refine ⟨h1, fun i hi => ?_⟩
    obtain ⟨h4, h5, h6⟩ := h2 i hi
    exact ⟨(rise_up _).1 h3 i (by simpa using hi), h4, h5, (rise_up _).1 h6⟩
set_option maxRecDepth 100000 in
theorem mayB_false {l : List En} (h : ¬ MayE l) : mayB l = false := decide_eq_false h

set_option maxRecDepth 100000 in
set_option maxHeartbeats 4000000 in
theorem lands_may13 (W : World) (oa : Option Addr) (c N : Nat) (l : List En) (en : l.length = N) (ha : ReadE W oa l) (hl : N ≤ 1000000) :
    Calls Try.prog 34 #[.slice oa N c] W fun e w' => e = .returned (.bool (mayB l)) ∧ Below W.heap.size W w' := by
  by_cases h64 : 64 < N
  · have hb : mayB l = false := mayB_false fun h => by have := h.1; omega
    rw [hb]
    have h64i : (64 : Int) < (N : Int) := by omega
    clear ha en hb
    go_enter Try.func34, Try.ntmps34
    go_wp2_with fail
    go_ret
    exact ⟨rfl, Below.refl _ _⟩
  have h64i : ¬ (64 : Int) < (N : Int) := by omega
  obtain ⟨i0, hi, hz0, hz1, hz2⟩ := info_parts info_z
  have HI := Lib.hid (And.intro hi (And.intro hz0 (And.intro hz1 hz2)))
  have HA := Lib.hid ha
  have HN := Lib.hid en
  clear ha en hi hz0 hz1 hz2
  go_enter Try.func34, Try.ntmps34
  go_wp2_with fail
  go_loopw [3, 11] (fun dv iv wr => ∃ i : Nat, i ≤ N ∧ iv = .int .i64 (i : Int) ∧ OwnZ wr W.heap.size dv ((l.take i).map (·.1)) ∧ Below W.heap.size W wr ∧ Hid (∀ j, j < i → 1 ≤ (enAt l j).2.length ∧ (enAt l j).2.length ≤ 256 ∧ riseB (-1) (enAt l j).2 = true)) (fun _ iv _ => N - (intOf iv).toNat)
  case atStart => exact ⟨0, by omega, rfl, OwnZ.nil _ _, Below.refl _ _, Lib.hid fun j hj => absurd hj (by omega)⟩
  case round =>
    obtain ⟨i, hi, rfl, hown, hlow, HR⟩ := hrel
    have HO := Lib.hid hown
    have HW := Lib.hid hlow
    clear hown hlow
    by_cases hlt : i < N
    · obtain ⟨e, he⟩ : ∃ e, l[i]? = some e := ⟨_, List.getElem?_eq_getElem (by rw [HN.out]; exact hlt)⟩
      obtain ⟨g, o, rfl, c0, p, c1, pa, pc, rfl, p1, p2, p3, p4⟩ := (HA.out.below HW.out) i e he
      have HE := Lib.hid (enAt_some he)
      have HEs := Lib.hid he
      obtain ⟨m, hm⟩ : ∃ m, e.2.length = m := ⟨_, rfl⟩
      have HM := Lib.hid hm
      rw [hm] at c1 p1
      obtain ⟨d, hd⟩ : ∃ d, e.1 = d := ⟨_, rfl⟩
      have HD := Lib.hid hd
      rw [hd] at c0
      clear he hm hd
      have HAl := Lib.hid (show (wr.alloc (.cells #[.int .i64 d, .slice pa m pc] 52)).heap[wr.heap.size]? = _ from heap_alloc_new wr _)
      by_cases h1 : m < 1
      · have hb : mayB l = false := mayB_false fun h => by
          have := (h.2 i (by rw [HN.out]; exact hlt)).2.1
          rw [HE.out, HM.out] at this
          omega
        have HB := Lib.hid hb
        have h1i : (m : Int) < 1 := by omega
        clear hb p4
        go_wp2_with fail
        go_ret
        exact ⟨by rw [HB.out]; rfl, HW.out.alloc HW.out.size _⟩
      have h1i : ¬ (m : Int) < 1 := by omega
      by_cases h2 : 256 < m
      · have hb : mayB l = false := mayB_false fun h => by
          have := (h.2 i (by rw [HN.out]; exact hlt)).2.2.1
          rw [HE.out, HM.out] at this
          omega
        have HB := Lib.hid hb
        have h2i : (256 : Int) < (m : Int) := by omega
        clear hb p4
        go_wp2_with fail
        go_ret
        exact ⟨by rw [HB.out]; rfl, HW.out.alloc HW.out.size _⟩
      have h2i : ¬ (256 : Int) < (m : Int) := by omega
      have HP := Lib.hid (p4.below ((Below.refl _ _).alloc (Nat.le_refl _) (.cells #[.int .i64 d, .slice pa m pc] 52)))
      have HRise := Lib.hid (lands_rise (wr.alloc (.cells #[.int .i64 d, .slice pa m pc] 52)) pa pc m e.2 HM.out HP.out (by omega))
      clear p4
      by_cases h3 : riseB (-1) e.2 = true
      · have HRise := Lib.hid (show Calls _ _ _ _ _ from h3 ▸ HRise.out)
        have HNext := Lib.hid (show ∀ j, j < i + 1 → 1 ≤ (enAt l j).2.length ∧ (enAt l j).2.length ≤ 256 ∧ riseB (-1) (enAt l j).2 = true by
          intro j hj
          by_cases hji : j < i
          · exact HR.out j hji
          · obtain rfl : j = i := by omega
            rw [HE.out, HM.out]
            exact ⟨by omega, by omega, h3⟩)
        have HT := Lib.hid (show (l.take (i + 1)).map (·.1) = (l.take i).map (·.1) ++ [d] by rw [List.take_add_one, HEs.out, ← HD.out]; simp)
        have HTl := Lib.hid (show ((l.take i).map (·.1)).length = i by rw [List.length_map, List.length_take, HN.out]; omega)
        clear h3
        go_wp2_with fail
        refine HRise.out.mono ?_; rintro e' w' ⟨rfl, hw⟩
        subst hw
        have HO2 := Lib.hid (HO.out.below ((Below.refl _ _).alloc (Nat.le_refl _) (.cells #[.int .i64 d, .slice pa m pc] 52)))
        have HW2 := Lib.hid (HW.out.alloc HW.out.size (.cells #[.int .i64 d, .slice pa m pc] 52))
        generalize hq : wr.alloc (.cells #[.int .i64 d, .slice pa m pc] 52) = wq at HO2 HW2 HAl
        have ca := cell_at HAl.out 0
        clear HRise HP hq
        go_wp2_with (at_builtin; refine wpList_append_own _ rfl (.tmp 31) (.tmp 34) 50 rfl W.heap.size 3 i0 _ 1 8 Try.underlying50 HI.out.1 HI.out.2.1 HI.out.2.2.1 HI.out.2.2.2 rfl (by decide) _ i (zC ((l.take i).map (·.1))) rfl (World.ownsRow.alloc (HO2.out.row HTl.out) _) ⟨_, 0, none⟩ 1 1 [.int .i64 d] rfl rfl one_cell (by simp [Value.oneCell']) (by unfold maxLen; omega) (by omega) (by have := HW2.out.size; simp; omega) ?_; intro v' w5 ho hg _; have HO5 := Lib.hid (OwnZ.more HTl.out HW2.out.size HW2.out HO2.out ho hg); clear ho hg)
        go_roundw
        case rel => exact ⟨i + 1, by omega, by go_num, by rw [HT.out]; exact HO5.out.1, HO5.out.2, HNext⟩
        case measure => simp [intOf]; omega
      · have hb : mayB l = false := mayB_false fun h => by
          have := ((may_split l).1 h).2.1 i (by rw [HN.out]; exact hlt)
          rw [HE.out] at this
          exact h3 this.2.2
        have HB := Lib.hid hb
        have h3' : riseB (-1) e.2 = false := by simpa using h3
        have HRise := Lib.hid (show Calls _ _ _ _ _ from h3' ▸ HRise.out)
        clear hb h3 h3'
        go_wp2_with fail
        refine HRise.out.mono ?_; rintro e' w' ⟨rfl, hw⟩
        subst hw
        go_wp2_with fail
        go_ret
        exact ⟨by rw [HB.out]; rfl, HW.out.alloc HW.out.size _⟩
    · obtain rfl : i = N := by omega
      have HT := Lib.hid (show mayB l = riseB (-1) (l.map (·.1)) by
        rw [Bool.eq_iff_iff]
        unfold mayB
        rw [decide_eq_true_iff, may_split]
        refine ⟨fun h => h.2.2, fun h => ⟨by have := HN.out; omega, fun j hj => HR.out j (by rw [← HN.out]; exact hj), h⟩⟩)
      have hown := HO.out
      rw [List.take_of_length_le (by rw [HN.out]; exact Nat.le_refl _)] at hown
      obtain ⟨da, dc, hdv, _, _, _, hdr⟩ := hown.reads
      rw [List.length_map, HN.out] at hdv
      have HRise := Lib.hid (lands_rise wr da dc i (l.map (·.1)) (by rw [List.length_map, HN.out]) hdr (by omega))
      subst hdv
      clear hown hdr
      go_wp2_with fail
      refine HRise.out.mono ?_; rintro e' w' ⟨rfl, hw⟩
      subst hw
      go_wp2_with fail
      go_ret
      exact ⟨by rw [HT.out]; rfl, HW.out⟩
end Go.Proofs.Ytpmhkmakkeckkaa
