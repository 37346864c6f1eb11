/-
  Layer 17 as it landed: a word, a phrase, a field are read. Over the program's own text.
-/
import Derived.Test.YtaaeooimalglaaaDoorQryLandC
import Derived.Test.YtaaeooimalglaaaDoorUtfLands
namespace Go.Proofs.YtaaeooimalglaaaDoor
open Go.RowKit

set_option maxRecDepth 100000 in
theorem blk_low {p : Nat} {v : Obj} {w w' : World} (h : w.heap[p]? = some v) (hb : Below w.heap.size w w') : w'.heap[p]? = some v := (hb.block _ (lt_of_heap h)).trans h
/-- A text as a value: its runes' text. -/
def TextV (_ : World) (q : List Nat) (v : Value) : Prop := v = .string (textZ (ints q))
set_option maxRecDepth 100000 in
/-- The first ones are passed. -/
theorem Rdr.cut {W0 w : World} {rb : Nat} {S : List Nat} {op : Int} (h : Rdr W0 w rb S op) {oa ob : Option Addr} {d t m : Nat} {x : Value} (hh : w.heap[rb]? = some (.cells #[x, .int .i64 op] 51 (0, 0))) (hm : (S.drop t).length = m) (h1 : m ≤ d) (h2 : d ≤ maxLen) (hrd : ReadI w ob (ints (S.drop t))) (hob : ∀ a, ob = some a → ∃ a', oa = some a' ∧ a'.block = a.block) (hbk : ∀ a, oa = some a → S ≠ [] → a.block < rb) : Rdr W0 (w.setCell ⟨rb, 0, none⟩ (.slice ob m d)) rb (S.drop t) op := by
  refine h.turn (mod_set _) (List.drop_suffix _ _) (c := d) (oa := ob) ?_ (by rw [hm]; exact h1) h2 hrd fun a ha hne => ?_
  · rw [heap_setCell_same _ _ _ _ _ _ hh, hm]; rfl
  · obtain ⟨a', h3, h4⟩ := hob a ha
    rw [← h4]; exact hbk a' h3 (drop_ne hne)
section
variable {W0 w w' : World} {rb : Nat} {R : List Nat} {op : Int}
set_option maxRecDepth 100000 in
set_option maxHeartbeats 4000000 in
theorem word_any {k : Nat} (h : Rdr W0 w rb R (8 - (k : Int))) (hk : k ≤ 8) :
    Calls Tryd.prog 34 #[.pointer (some ⟨rb, 0, none⟩)] w (Did W0 w rb (8 - (k : Int)) (wordP k R) TextV) := by
  have HN := Lib.hid (next_any h)
  have HH0 := Lib.hid h
  obtain ⟨S, hS⟩ : ∃ S, S = skipB R := ⟨_, rfl⟩
  have hP : wordP k R = if classZ (headZ S) = 0 then .err (failE k S) else .ok (S.takeWhile letB) (S.dropWhile letB) := by unfold wordP; rw [hS]
  rw [← hS] at HN
  obtain ⟨op, hop⟩ : ∃ op, op = 8 - (k : Int) := ⟨_, rfl⟩
  rw [← hop] at HN ⊢
  have HOp := Lib.hid hop
  obtain ⟨hd, hhd⟩ : ∃ hd, hd = headZ S := ⟨_, rfl⟩
  rw [← hhd] at HN hP
  obtain ⟨z, hz⟩ : ∃ z, z = classZ hd := ⟨_, rfl⟩
  rw [← hz] at hP
  have HCl : Hid (∀ w', TabsIn w' → Calls Tryd.prog 40 #[.int .i32 hd] w' fun e w2 => e = .returned (.int .i64 z) ∧ Below w'.heap.size w' w2) := Lib.hid (fun w' hT => by rw [hz]; exact class_tab w' hd hT)
  have HHd := Lib.hid hhd
  have HZ := Lib.hid hz
  clear h hS hhd hz hop
  by_cases hz0 : z = 0
  · rw [if_pos hz0] at hP
    rw [hP]
    clear hP
    go_enter Tryd.func34, Tryd.ntmps34
    go_wp2_with fail
    refine HN.out.mono ?_
    rintro e w2 ⟨rfl, h2, h3⟩
    have HC := Lib.hid (HCl.out w2 h2.tab)
    have H2 := Lib.hid h2
    have H3 := Lib.hid h3
    clear h2 h3 HN HCl
    go_wp2_with fail
    refine HC.out.mono ?_
    rintro e w3 ⟨rfl, hb⟩
    have HF := Lib.hid (fail_any (show Rdr W0 w3 rb S (8 - (k : Int)) by rw [← HOp.out]; exact H2.out.below hb) hk)
    have H4 := Lib.hid (H3.out.trans (below_mod hb))
    clear hb
    go_wp2_with fail
    refine HF.out.mono ?_
    rintro e w4 ⟨rfl, h5⟩
    have H5 := Lib.hid (H4.out.trans h5)
    clear h5
    exact ⟨rfl, H5.out, rfl⟩
  · rw [if_neg hz0] at hP
    rw [hP]
    clear hP
    obtain ⟨n, hn⟩ : ∃ n, n = S.length := ⟨_, rfl⟩
    obtain ⟨t, ht⟩ : ∃ t, t = (S.takeWhile letB).length := ⟨_, rfl⟩
    obtain ⟨ht1, ht2⟩ := take_tw letB S
    rw [← ht] at ht1 ht2
    have htn : t ≤ n := by rw [hn, ht]; exact take_le _ _
    have hfz : foundZ letB S = if t < n then (t : Int) else -1 := by unfold foundZ; rw [ht, hn]
    rw [← ht1, ← ht2]
    have HTn := Lib.hid (And.intro hn hfz)
    clear ht ht1 ht2 hn hfz
    go_enter Tryd.func34, Tryd.ntmps34
    go_wp2_with fail
    refine HN.out.mono ?_
    rintro e w2 ⟨rfl, h2, h3⟩
    have HC := Lib.hid (HCl.out w2 h2.tab)
    have H2 := Lib.hid h2
    have H3 := Lib.hid h3
    clear h2 h3 HN HCl
    go_wp2_with fail
    refine HC.out.mono ?_
    rintro e w3 ⟨rfl, hb⟩
    have h3 := H2.out.below hb
    have H4 := Lib.hid (H3.out.trans (below_mod hb))
    clear hb
    obtain ⟨oa, c, hh, hc, hm, hr, hbk⟩ := h3.rd
    have HIx := Lib.hid (indexf_any w3 oa c S h3.tab hr h3.few)
    rw [← HTn.out.1] at hh HIx hc
    rw [HTn.out.2] at HIx
    have q0 := cell_at hh 0
    have H3' := Lib.hid h3
    clear h3 hh hr hm hc hbk
    go_wp2_with fail
    refine HIx.out.mono ?_
    rintro e w4 ⟨rfl, hb⟩
    have h4 := H3'.out.below hb
    have H5 := Lib.hid (H4.out.trans (below_mod hb))
    clear hb q0 HIx
    obtain ⟨oa, c, hh, hc, hm, hr, hbk⟩ := h4.rd
    obtain ⟨ob, d, hsl, hd1, hd2, hrd, hob⟩ := slice_at n c t HTn.out.1.symm htn (by rw [HTn.out.1]; exact hc) hm hr
    have hto := slice_to oa n c t (by rw [← HTn.out.1] at hc; omega)
    have hrt := read_to hr t
    have hok := h4.okr
    have hfew := h4.few
    have HTx := Lib.hid (fun (w5 : World) (hb : Below w4.heap.size w4 w5) => kept.text w5 oa c (ints (S.take t)) (by rw [ints_length, List.length_take]; omega) (by rw [ints_length, List.length_take, ← HTn.out.1]; rw [← HTn.out.1] at hc; omega) hm (hrt.below hb) (ints_i32 fun r hr => hok r (List.mem_of_mem_take hr)))
    rw [ints_length, List.length_take, ← HTn.out.1, Nat.min_eq_left htn] at HTx
    rw [← HTn.out.1] at hh
    have q0 := cell_at hh 0
    have f0 := free_at hh 0
    obtain ⟨m, hmm⟩ : ∃ m, (S.drop t).length = m := ⟨_, rfl⟩
    rw [hmm] at hsl hd1
    have HH := Lib.hid (And.intro hh (And.intro hmm (And.intro hd1 (And.intro hd2 (And.intro hrd (And.intro hob hbk))))))
    have H4' := Lib.hid h4
    clear h4 hc hm hr hbk hd1 hd2 hrd hob hmm hrt hok hfew
    by_cases htt : t < n
    · have h0 : ¬ (t : Int) < 0 := by omega
      rw [if_pos htt]
      go_wp2_with fail
      refine (HTx.out _ (Below.refl _ _)).mono ?_
      rintro e w5 ⟨rfl, hb5⟩
      have q0' := below_cell q0 hb5
      have hh5 := blk_low HH.out.1 hb5
      have f0' := free_at hh5 0
      have HB5 := Lib.hid (And.intro hh5 hb5)
      clear hb5 hh5 q0 f0
      go_wp2_with fail
      go_ret
      obtain ⟨g1, g2, g3, g4, g5, g6, g7⟩ := HH.out
      obtain ⟨g8, g9⟩ := HB5.out
      exact ⟨(H5.out.trans (below_mod g9)).trans (mod_set _), _, rfl, rfl, (H4'.out.below g9).cut g8 g2 g3 g4 (g5.below g9) g6 g7⟩
    · obtain rfl : t = n := by omega
      rw [if_neg htt]
      go_wp2_with fail
      refine (HTx.out _ (Below.refl _ _)).mono ?_
      rintro e w5 ⟨rfl, hb5⟩
      have q0' := below_cell q0 hb5
      have hh5 := blk_low HH.out.1 hb5
      have f0' := free_at hh5 0
      have HB5 := Lib.hid (And.intro hh5 hb5)
      clear hb5 hh5 q0 f0
      go_wp2_with fail
      go_ret
      obtain ⟨g1, g2, g3, g4, g5, g6, g7⟩ := HH.out
      obtain ⟨g8, g9⟩ := HB5.out
      exact ⟨(H5.out.trans (below_mod g9)).trans (mod_set _), _, rfl, rfl, (H4'.out.below g9).cut g8 g2 g3 g4 (g5.below g9) g6 g7⟩
set_option maxRecDepth 100000 in
set_option maxHeartbeats 4000000 in
theorem phrase_any (h : Rdr W0 w rb R op) (h1 : 1 ≤ R.length) :
    Calls Tryd.prog 58 #[.pointer (some ⟨rb, 0, none⟩)] w (Did W0 w rb op (phraseP (R.drop 1)) TextV) := by
  have HPs := Lib.hid (pass_any h h1)
  obtain ⟨S, hS⟩ : ∃ S, S = R.drop 1 := ⟨_, rfl⟩
  rw [← hS] at HPs ⊢
  obtain ⟨n, hn⟩ : ∃ n, n = S.length := ⟨_, rfl⟩
  obtain ⟨t, ht⟩ : ∃ t, t = (S.takeWhile (· != 34)).length := ⟨_, rfl⟩
  obtain ⟨ht1, ht2⟩ := take_tw (· != 34) S
  rw [← ht] at ht1 ht2
  have htn : t ≤ n := by rw [hn, ht]; exact take_le _ _
  have hfz : foundZ (· != 34) S = if t < n then (t : Int) else -1 := by unfold foundZ; rw [ht, hn]
  have hmem : 34 ∈ S ↔ t < n := by
    rw [hn, ht]
    clear hS hn ht ht1 ht2 htn hfz HPs
    induction S with
    | nil => simp
    | cons c S ih =>
      rw [List.takeWhile_cons]
      by_cases hc : c = 34
      · subst hc; simp
      · rw [if_pos (bne_iff_ne.2 hc), List.length_cons, List.length_cons, List.mem_cons]
        constructor
        · rintro (h | h)
          · exact absurd h.symm hc
          · have := ih.1 h; omega
        · intro h; exact .inr (ih.2 (by omega))
  have hP : phraseP S = if t < n then .ok (S.take t) (S.drop (t + 1)) else .err 8 := by
    unfold phraseP
    simp only [hmem]
    rw [← ht1, ← ht2, List.drop_drop]
  have HTn := Lib.hid (And.intro hn hfz)
  clear ht ht1 ht2 hn hfz hmem hS h h1
  by_cases htt : t < n
  · rw [hP, if_pos htt]
    clear hP
    go_enter Tryd.func58, Tryd.ntmps58
    go_wp2_with fail
    refine HPs.out.mono ?_
    rintro e w2 ⟨rfl, h2, h3⟩
    obtain ⟨oa, c, hh, hc, hm, hr, hbk⟩ := h2.rd
    have HIx := Lib.hid (index_any w2 oa c S hr h2.few)
    rw [← HTn.out.1] at hh HIx hc
    rw [HTn.out.2] at HIx
    have q0 := cell_at hh 0
    have f0 := free_at hh 0
    rw [if_pos htt] at HIx
    obtain ⟨ob, d, hsl, hd1, hd2, hrd, hob⟩ := slice_at n c (t + 1) HTn.out.1.symm htt hc hm hr
    have hsl1 : ∀ w : World, (Instr.slice 34 (.slice oa n c) (some (.int .i64 ((t : Int) + 1))) none none).run Tryd.prog w = .ok (.slice ob (S.drop (t + 1)).length d) w := hsl
    have hto := slice_to oa n c t (by omega)
    have hrt := read_to hr t
    have hok := h2.okr
    have hfew := h2.few
    have HTx := Lib.hid (kept.text w2 oa c (ints (S.take t)) (by rw [ints_length, List.length_take]; omega) (by rw [ints_length, List.length_take, ← HTn.out.1]; omega) hm hrt (ints_i32 fun r hr => hok r (List.mem_of_mem_take hr)))
    rw [ints_length, List.length_take, ← HTn.out.1, Nat.min_eq_left htn] at HTx
    obtain ⟨m, hmm⟩ : ∃ m, (S.drop (t + 1)).length = m := ⟨_, rfl⟩
    rw [hmm] at hsl1 hd1
    have HH := Lib.hid (And.intro hh (And.intro hmm (And.intro hd1 (And.intro hd2 (And.intro hrd (And.intro hob hbk))))))
    have hn2 : n ≤ 1000000 := by rw [HTn.out.1]; exact hfew
    have H2 := Lib.hid h2
    have H3 := Lib.hid h3
    clear h2 h3 hc hm hr hbk hd1 hd2 hrd hob hmm hrt hok hfew hsl hh
    have h0 : ¬ (t : Int) < 0 := by omega
    go_wp2_with (go_at_call 69; refine HIx.out.mono ?_; rintro e w3 ⟨rfl, rfl⟩)
    refine HTx.out.mono ?_
    rintro e w5 ⟨rfl, hb5⟩
    have q0' := below_cell q0 hb5
    have hh5 := blk_low HH.out.1 hb5
    have f0' := free_at hh5 0
    have HB5 := Lib.hid (And.intro hh5 hb5)
    clear hb5 hh5 q0 f0
    go_wp2_with fail
    go_ret
    obtain ⟨g1, g2, g3, g4, g5, g6, g7⟩ := HH.out
    obtain ⟨g8, g9⟩ := HB5.out
    exact ⟨(H3.out.trans (below_mod g9)).trans (mod_set _), _, rfl, rfl, (H2.out.below g9).cut g8 g2 g3 g4 (g5.below g9) g6 g7⟩
  · rw [hP, if_neg htt]
    clear hP
    go_enter Tryd.func58, Tryd.ntmps58
    go_wp2_with fail
    refine HPs.out.mono ?_
    rintro e w2 ⟨rfl, h2, h3⟩
    obtain ⟨oa, c, hh, hc, hm, hr, hbk⟩ := h2.rd
    have HIx := Lib.hid (index_any w2 oa c S hr h2.few)
    rw [← HTn.out.1] at hh HIx hc
    rw [HTn.out.2] at HIx
    have q0 := cell_at hh 0
    have f0 := free_at hh 0
    rw [if_neg htt] at HIx
    have H3 := Lib.hid h3
    clear h2 h3 hc hm hr hbk hh
    go_wp2_with (go_at_call 69; refine HIx.out.mono ?_; rintro e w3 ⟨rfl, rfl⟩)
    exact ⟨rfl, H3.out, rfl⟩
set_option maxRecDepth 100000 in
theorem field_none {R S : List Nat} (hS : S = skipB R) (h : headZ S < 48 ∨ 52 ≤ headZ S ∨ S.length < 2 ∨ ¬ S[1]? = some 58) : fieldP R = (0, S) := by
  unfold fieldP
  rw [← hS]
  split
  · rename_i c r
    rw [if_neg]
    intro hc
    simp only [headZ, List.length_cons, List.getElem?_cons_succ, List.getElem?_cons_zero] at h
    rcases h with h | h | h | h
    · omega
    · omega
    · omega
    · exact h trivial
  · rfl
set_option maxRecDepth 100000 in
theorem field_some {R S : List Nat} (hS : S = skipB R) (h1 : 48 ≤ headZ S) (h2 : headZ S < 52) (h3 : S[1]? = some 58) : fieldP R = (headZ S - 48, S.drop 2) := by
  unfold fieldP
  rw [← hS]
  match S, h1, h2, h3 with
  | c :: d :: r, h1, h2, h3 =>
    simp at h3
    subst h3
    simp only [headZ] at h1 h2
    simp only
    rw [if_pos ⟨by omega, by omega⟩]
    rfl
set_option maxRecDepth 100000 in
set_option maxHeartbeats 4000000 in
theorem field_any (h : Rdr W0 w rb R op) :
    Calls Tryd.prog 56 #[.pointer (some ⟨rb, 0, none⟩)] w fun e w' => e = .returned (.int .u8 (fieldP R).1) ∧ Rdr W0 w' rb (fieldP R).2 op ∧ Mod (fun k => k = rb) w w' := by
  have HN := Lib.hid (next_any h)
  obtain ⟨S, hS⟩ : ∃ S, S = skipB R := ⟨_, rfl⟩
  have HS := Lib.hid hS
  rw [← hS] at HN
  clear h hS
  go_enter Tryd.func56, Tryd.ntmps56
  go_wp2_with fail
  refine HN.out.mono ?_
  rintro e w2 ⟨rfl, h2, h3⟩
  have H2 := Lib.hid h2
  have H3 := Lib.hid h3
  obtain ⟨oa, c, hh, hc, hm, hr, hbk⟩ := h2.rd
  obtain ⟨n, hn⟩ : ∃ n, n = S.length := ⟨_, rfl⟩
  have hn2 := h2.few
  rw [← hn] at hh hc hn2
  have q0 := cell_at hh 0
  have f0 := free_at hh 0
  have HNn := Lib.hid hn
  have HNone := Lib.hid (fun hq => field_none HS.out hq)
  have HSome := Lib.hid (fun h1 h2 h3 => field_some HS.out h1 h2 h3)
  obtain ⟨hd, hhd⟩ : ∃ hd, hd = headZ S := ⟨_, rfl⟩
  rw [← hhd] at HNone HSome ⊢
  clear h2 h3 HN hhd hn
  by_cases h48 : hd < 48
  · have HE := Lib.hid (HNone.out (.inl h48))
    go_wp2_with fail
    go_ret
    rw [HE.out]
    exact ⟨rfl, H2.out, H3.out⟩
  · by_cases h52 : 52 ≤ hd
    · have HE := Lib.hid (HNone.out (.inr (.inl h52)))
      go_wp2_with fail
      go_ret
      rw [HE.out]
      exact ⟨rfl, H2.out, H3.out⟩
    · by_cases hn0 : n < 2
      · have HE := Lib.hid (HNone.out (.inr (.inr (.inl (by rw [← HNn.out]; exact hn0)))))
        have hn1 : (n : Int) < 2 := by omega
        go_wp2_with fail
        go_ret
        rw [HE.out]
        exact ⟨rfl, H2.out, H3.out⟩
      · obtain ⟨x, hx⟩ : ∃ x, S[1]? = some x := ⟨_, List.getElem?_eq_getElem (by rw [← HNn.out]; omega)⟩
        obtain ⟨ad, rfl, hcell⟩ := hr 1 _ (ints_get hx)
        have hcell2 : w2.cell? ⟨ad.block, ad.off + 1, none⟩ = some (.int .i32 (x : Int)) := by simpa [Addr.add] using hcell
        have hn1 : ¬ (n : Int) < 2 := by omega
        have hn3 : 1 < n := by omega
        by_cases h58 : x = 58
        · have HE := Lib.hid (HSome.out (by omega) (by omega) (by rw [hx, h58]))
          obtain ⟨ob, d, hsl, hd1, hd2, hrd, hob⟩ := slice_at n c 2 HNn.out.symm (by omega) hc hm hr
          have hsl1 : ∀ w : World, (Instr.slice 34 (.slice (some ad) n c) (some (.int .i64 2)) none none).run Tryd.prog w = .ok (.slice ob (S.drop 2).length d) w := hsl
          obtain ⟨m, hmm⟩ : ∃ m, (S.drop 2).length = m := ⟨_, rfl⟩
          rw [hmm] at hsl1 hd1
          have HH := Lib.hid (And.intro hh (And.intro hmm (And.intro hd1 (And.intro hd2 (And.intro hrd (And.intro hob hbk))))))
          have h582 : (x : Int) = 58 := by omega
          have hw1 : IntKind.i32.wrap (hd - 48) = hd - 48 := IntWalk.i32_in _ (by omega)
          have hw2 : IntKind.u8.wrap (hd - 48) = hd - 48 := IntWalk.u8_in _ (by omega)
          clear hc hm hr hbk hd1 hd2 hrd hob hmm hsl hh hx h58 hcell
          go_wp2_with fail
          go_ret
          obtain ⟨g1, g2, g3, g4, g5, g6, g7⟩ := HH.out
          rw [HE.out]
          exact ⟨rfl, H2.out.cut g1 g2 g3 g4 g5 g6 g7, H3.out.trans (mod_set _)⟩
        · have HE := Lib.hid (HNone.out (.inr (.inr (.inr (by rw [hx]; simp [h58])))))
          have h582 : ¬ (x : Int) = 58 := by omega
          have h583 : ((x : Int) != 58) = true := bne_iff_ne.2 h582
          clear hx hcell
          go_wp2_with fail
          go_ret
          rw [HE.out]
          exact ⟨rfl, H2.out, H3.out⟩
end
end Go.Proofs.YtaaeooimalglaaaDoor
