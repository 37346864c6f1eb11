/-
  A law's walk of layer 6, given what the program's functions keep: texts whose runes fold to the same ones. Over the program's own text.
-/
import Derived.Test.YtpfbhafcjipmeaaDoorTokKept
namespace Go.Proofs.YtpfbhafcjipmeaaDoor
open Go.RowKit

/-- A cell of a row of runes turned. -/
theorem runes_set {w : World} {base g cap i : Nat} {L : List Nat} {x : Nat} (h : RunesIn w base (.slice (some ⟨g, 0, none⟩) L.length cap) L) (_hi : i < L.length) : RunesIn (w.setCell ⟨g, i, none⟩ (.int .i32 (x : Int))) base (.slice (some ⟨g, 0, none⟩) L.length cap) (L.set i x) := by
  rcases h.2 with ⟨h1, _⟩ | ⟨g', cap', cur, h1, hb, hg, hn, hm, hs, ht⟩
  · cases h1
  · injection h1 with h1 h2 h3
    injection h1 with h1
    injection h1 with h1 _ _
    subst h1 h3
    refine ⟨by simp, .inr ⟨g, cap, cur.setIfInBounds i (.int .i32 (x : Int)), by simp, hb, ?_, by simpa using hn, hm, by simpa using hs, ?_⟩⟩
    · simp [World.setCell, Array.getElem?_modify, hg]
    · simp only [Nat.mul_one] at ht ⊢
      rw [Array.toList_setIfInBounds, List.length_set, List.take_set, ht, List.map_set]
theorem runes_cell {w : World} {base g n cap i : Nat} {L : List Nat} {r : Nat} (h : RunesIn w base (.slice (some ⟨g, 0, none⟩) n cap) L) (hi : L[i]? = some r) : w.cell? ⟨g, i, none⟩ = some (.int .i32 (r : Int)) ∧ w.frozen? ⟨g, i, none⟩ = false := by
  rcases h.2 with ⟨h1, _⟩ | ⟨g', cap', cur, h1, hb, hg, hn, hm, hs, ht⟩
  · cases h1
  · injection h1 with h1 h2 h3
    injection h1 with h1
    injection h1 with h1 _ _
    subst h1
    have := World.ownsRow.cells h (g := g) rfl i (.int .i32 (r : Int)) (by simp [hi])
    rw [Addr.add_lit, Nat.zero_add] at this
    exact ⟨this, Lib.frozen_of_heap hg i⟩

section
variable {T : World → Prop} (K : KeptTok T) (W : World) (hT : T W)
include K hT

set_option maxRecDepth 100000 in
set_option maxHeartbeats 4000000 in
theorem case_all (s : ByteArray) (hs : (s.size : Int) ≤ 9223372036854775807) : Calls Tryd.prog 6 #[.string s] W fun e w' => e = .returned (.bool true) ∧ Below W.heap.size W w' := by
  have HF := Lib.hid (fun w h => fixed_any K w h)
  by_cases hlen : (500 : Int) < (s.size : Int)
  · have HT := Lib.hid hT
    clear K hT
    go_enter Tryd.func6, Tryd.ntmps6
    go_wp2_with fail
    refine (HF.out _ HT.out).mono ?_; rintro e w' ⟨rfl, _, hb⟩
    go_wp2_with fail
    go_ret
    exact ⟨rfl, hb⟩
  · have hle : s.size ≤ 1000000 := by omega
    have hrl := (runesOf_many s).1
    have hok := runesOf_ok s
    have hfw : wordsT (textZ ((ints (runesOf s)).map foldZ)) = wordsT s := by unfold wordsT; rw [allT_fold]
    have hfz : textZ ((ints (runesOf s)).map foldZ) = textZ (ints ((runesOf s).map foldN)) := by rw [ints_fold hok]
    have hts : (textZ (ints ((runesOf s).map foldN))).size ≤ 1000000 := by
      rw [textZ_size]
      have := textB_le (ints ((runesOf s).map foldN))
      rw [ints_length, List.length_map] at this
      omega
    have HW := Lib.hid (K.words_of s _ hle rfl)
    have HW2 := Lib.hid (K.words_of (textZ (ints ((runesOf s).map foldN))) (toksP 0 (wordsT s)) hts (by rw [← hfz, hfw]))
    have HK := Lib.hid (fun w w' => K.keep w w')
    have HRun := Lib.hid (ref_runes W s hle)
    have hll : (toksP 0 (wordsT s)).length ≤ 1000000 := by rw [toksP_length]; have := words_le s; omega
    have HT := Lib.hid hT
    generalize toksP 0 (wordsT s) = A at HW HW2 hll
    generalize runesOf s = L at *
    have HTx := Lib.hid (fun (w : World) (oa : Option Addr) (c : Nat) (h : ReadI w oa (ints (L.map foldN))) => ref_text w oa c (ints (L.map foldN)) h (by rw [ints_length, List.length_map]; omega))
    generalize textZ (ints (L.map foldN)) = tz at HTx HW2
    have HOk := Lib.hid hok
    obtain ⟨n, hn⟩ : ∃ n, L.length = n := ⟨_, rfl⟩
    have HN := Lib.hid hn
    have hn5 : n ≤ 500 := by omega
    clear K hT hle hrl hok hfw hfz hts hn hs
    go_enter Tryd.func6, Tryd.ntmps6
    go_wp2_with fail
    refine HRun.out.mono ?_
    rintro e w1 ⟨v, rfl, hnn, hr, hb⟩
    obtain ⟨g, cap, rfl⟩ : ∃ g cap, v = .slice (some ⟨g, 0, none⟩) n cap := by
      rcases hr.2 with ⟨h1, _⟩ | ⟨g, cap, cur, h1, _⟩
      · exact absurd h1 hnn
      · exact ⟨g, cap, by rw [h1, HN.out]⟩
    have hgW : W.heap.size ≤ g := (World.ownsRow.lt hr g rfl).1
    have HR := Lib.hid hr
    have HB := Lib.hid hb
    clear hr hb hnn HRun
    go_wp2_with fail
    go_loopw [13] (fun iv wr => ∃ i : Nat, i ≤ n ∧ iv = .int .i64 i ∧ RunesIn wr W.heap.size (.slice (some ⟨g, 0, none⟩) n cap) ((L.take i).map foldN ++ L.drop i) ∧ Below W.heap.size W wr) (fun iv _ => n - (intOf iv).toNat)
    case atStart => exact ⟨0, by omega, rfl, by simpa using HR.out, HB.out⟩
    case round =>
      obtain ⟨i, hi, rfl, hR, hB⟩ := hrel
      by_cases hlt : i < n
      · obtain ⟨r, hr⟩ : ∃ r, L[i]? = some r := ⟨_, List.getElem?_eq_getElem (by rw [HN.out]; exact hlt)⟩
        have hil : i < L.length := by rw [HN.out]; exact hlt
        have hlm : ((L.take i).map foldN).length = i := by rw [List.length_map, List.length_take]; omega
        have hget : ((L.take i).map foldN ++ L.drop i)[i]? = some r := by
          rw [List.getElem?_append_right (by omega), hlm, Nat.sub_self, List.getElem?_drop, Nat.add_zero, hr]
        obtain ⟨c0, f0⟩ := runes_cell hR hget
        have hlen2 : ((L.take i).map foldN ++ L.drop i).length = n := by rw [List.length_append, hlm, List.length_drop, HN.out]; omega
        have hnew : ((L.take i).map foldN ++ L.drop i).set i (foldN r) = (L.take (i + 1)).map foldN ++ L.drop (i + 1) := by
          rw [List.set_append_right _ _ (by omega), hlm, Nat.sub_self, List.take_add_one, hr, List.drop_eq_getElem_cons hil, List.set_cons_zero, Option.toList_some, List.map_append, List.append_assoc]
          rfl
        have HFo := Lib.hid (fun w => ref_fold w (r : Int))
        rw [← (fold_ok (HOk.out r (List.mem_of_getElem? hr))).1] at HFo
        have HNext := Lib.hid (show RunesIn (wr.setCell ⟨g, i, none⟩ (.int .i32 ((foldN r : Nat) : Int))) W.heap.size (.slice (some ⟨g, 0, none⟩) n cap) ((L.take (i + 1)).map foldN ++ L.drop (i + 1)) by
          rw [← hnew]
          have h := hR
          rw [← hlen2] at h ⊢
          exact runes_set h (by rw [hlen2]; exact hlt))
        have HBn := Lib.hid (hB.setCell (p := ⟨g, i, none⟩) hgW (.int .i32 ((foldN r : Nat) : Int)))
        clear hR hB hr hget hnew hlen2 hil hlm
        go_wp2_with fail
        refine (HFo.out _).mono ?_; rintro e w5 ⟨rfl, rfl⟩
        go_wp2_with fail
        go_roundw
        case rel => exact ⟨i + 1, by omega, by go_num, HNext.out, HBn.out⟩
        case measure => simp [intOf]; omega
      · have hi' : n = i := by omega
        rw [show L.take i = L from List.take_of_length_le (by rw [HN.out]; omega), show L.drop i = [] from List.drop_eq_nil_of_le (by rw [HN.out]; omega), List.append_nil] at hR
        obtain ⟨oa, ca, hv, hrd⟩ : ∃ oa ca, Value.slice (some ⟨g, 0, none⟩) n cap = .slice oa n ca ∧ ReadI wr oa (ints (L.map foldN)) := by
          obtain ⟨g2, cap2, h1, _, _, _, _, h2⟩ := runes_read hR (by simp)
          refine ⟨some ⟨g2, 0, none⟩, cap2, ?_, h2⟩
          rw [h1, List.length_map, HN.out]
        injection hv with hv1 _ hv3
        subst hv1 hv3
        have HRd := Lib.hid hrd
        have HB1 := Lib.hid hB
        have HT1 := Lib.hid (HK.out _ _ HT.out hB)
        have hln : (ints (L.map foldN)).length = n := by rw [ints_length, List.length_map, HN.out]
        rw [hln] at HTx
        clear hR hB hrd hln hi'
        go_wp2_with fail
        refine (HF.out _ HT1.out).mono ?_; rintro e w5 ⟨rfl, ht, hb⟩
        have HT5 := Lib.hid ht; have HRd := Lib.hid (HRd.out.below hb); have HB := Lib.hid (low_more HB1.out hb); clear ht hb
        go_wp2_with fail
        refine (HTx.out _ _ _ HRd.out).mono ?_; rintro e w6 ⟨rfl, hb⟩
        have HT6 := Lib.hid (HK.out _ _ HT5.out hb); have HB := Lib.hid (low_more HB.out hb); clear hb
        go_wp2_with fail
        refine (HW2.out _ HT6.out).mono ?_; rintro e w7 ⟨oa, c, rfl, _, _, _, hr, ht, hb⟩
        have HA := Lib.hid hr; have HT7 := Lib.hid ht; have HB := Lib.hid (low_more HB.out hb); clear hr ht hb
        go_wp2_with fail
        refine (HW.out _ HT7.out).mono ?_; rintro e w8 ⟨ob, cb, rfl, _, _, _, hr, _, hb⟩
        have HA := Lib.hid (HA.out.below hb); have HA2 := Lib.hid hr; have HB := Lib.hid (low_more HB.out hb); clear hr hb
        go_wp2_with fail
        refine (same_toks _ oa ob c cb A A HA.out HA2.out hll).mono ?_; rintro e w9 ⟨rfl, hb⟩
        rw [decide_eq_true rfl]
        have HB := Lib.hid (low_more HB.out hb); clear hb
        go_wp2_with fail
        go_ret
        exact ⟨rfl, HB.out⟩
end
end Go.Proofs.YtpfbhafcjipmeaaDoor
