/-
  What the landed code's functions of layer 6 keep: the words of a text, and those of a document's fields. Over the program's own text.
-/
import Derived.Test.YtaaeooimalglaaaDoorTokLandB
namespace Go.Proofs.YtaaeooimalglaaaDoor
open Go.RowKit

set_option maxRecDepth 100000 in
theorem cutA_len : ∀ (l c : List Nat), ∀ q ∈ cutA c l, q.length ≤ c.length + l.length
  | [], c, q, hq => by
    rw [cutA_nil] at hq
    split at hq
    · simp at hq
    · simp at hq; subst hq; simp
  | r :: l, c, q, hq => by
    rw [cutA_cons] at hq
    rw [List.length_cons]
    split at hq
    · split at hq
      · have := cutA_len l [] q hq; simp at this; omega
      · rcases List.mem_cons.1 hq with rfl | hq
        · omega
        · have := cutA_len l [] q hq; simp at this; omega
    · have := cutA_len l (c ++ [r]) q hq
      rw [List.length_append] at this
      simp at this
      omega
set_option maxRecDepth 100000 in
theorem parts_reads {w : World} {base : Nat} {v : Value} {vs : List Value} (h : PartsIn w base v vs) : ∃ oa cap, v = .slice oa vs.length cap ∧ ∀ j x, vs[j]? = some x → ∃ ad, oa = some ad ∧ w.cell? (ad.add j) = some x := by
  rcases h.2 with ⟨rfl, h0⟩ | ⟨g, cap, cur, rfl, hb, hg, hn, hm, hs, ht⟩
  · have : vs = [] := List.eq_nil_of_length_eq_zero h0
    subst this
    exact ⟨none, 0, rfl, fun j x hj => by simp at hj⟩
  · exact ⟨_, cap, rfl, fun j x hj => ⟨_, rfl, World.ownsRow.cells h (g := g) rfl j x hj⟩⟩

set_option maxRecDepth 100000 in
set_option maxHeartbeats 4000000 in
theorem lands_words (W : World) (s : ByteArray) (hT : TabsIn W) (hs : s.size ≤ 1000000) :
    Calls Tryd.prog 68 #[.string s] W fun e w' => ∃ v, e = .returned v ∧ ToksIn w' W.heap.size v (toksP 0 (wordsT s)) ∧ Below W.heap.size W w' := by
  obtain ⟨iT, hi, hz0, hz1, hz2⟩ := info_parts info_tok
  have HIT := Lib.hid (And.intro hi (And.intro hz0 (And.intro hz1 hz2)))
  have HT := Lib.hid hT
  have HRn := Lib.hid (kept.runes W s hs)
  have hRl := (runesOf_many s).1
  have hok := runesOf_ok s
  have hall := allT_cut s
  have HTm := Lib.hid (allT_term s)
  have HWs := Lib.hid (show wordsT s = placesF 0 (allT s) from rfl)
  rw [hall] at HTm HWs
  obtain ⟨R, hRd⟩ : ∃ R, R = runesOf s := ⟨_, rfl⟩
  rw [← hRd] at HRn hRl hok hall HTm HWs
  have hRl2 : R.length ≤ 1000000 := by omega
  have hare := cutA_are R [] (by simp [lettersP])
  have hlen := cutA_len R []
  have hmany := cutA_le R []
  obtain ⟨qs, hqs⟩ : ∃ qs, qs = cutL R := ⟨_, rfl⟩
  have HCut : Hid (∀ (w : World) (oa : Option Addr) (c : Nat), TabsIn w → ReadI w oa (ints R) → R.length ≤ c → c ≤ maxLen → Calls Tryd.prog 79 #[.slice oa R.length c] w fun e w' => ∃ v vs, e = .returned v ∧ PartsIn w' w.heap.size v vs ∧ PartsP w vs qs ∧ Below w.heap.size w w') := Lib.hid (fun w oa c h1 h2 h3 h4 => by rw [hqs]; exact lands_cut w oa c R h1 h2 hRl2 h3 h4)
  have HQ : Hid (∀ q ∈ qs, lettersP q ∧ (∀ r ∈ q, okR r) ∧ q.length ≤ 1000000) := Lib.hid (fun q hq => by
    rw [hqs] at hq
    obtain ⟨h1, h2, h3⟩ := hare q hq
    have h4 := hlen q hq
    simp at h4
    exact ⟨h2, fun r hr => hok r (by have := h3 r hr; simpa using this), by omega⟩)
  rw [show cutL R = qs from hqs.symm] at HTm HWs
  obtain ⟨n, hn⟩ : ∃ n, n = qs.length := ⟨_, rfl⟩
  have hn2 : n ≤ 1000001 := by
    have : (cutL R).length ≤ R.length + 1 := hmany
    rw [← hqs] at this
    omega
  have HN := Lib.hid hn
  clear hi hz0 hz1 hz2 hT hok hall hRd hare hlen hmany hqs hn hRl hs
  go_enter Tryd.func68, Tryd.ntmps68
  go_wp2_with fail
  refine HRn.out.mono ?_
  rintro e w1 ⟨oa1, c1, he, h1, h2, h3, hb1, _⟩
  rw [ints_length] at he h1
  subst he
  have HC := Lib.hid (HCut.out w1 oa1 c1 (HT.out.below hb1) h3 h1 h2)
  have HB1 := Lib.hid hb1
  clear h1 h2 h3 hb1 HRn
  go_wp2_with fail
  refine HC.out.mono ?_
  rintro e w2 ⟨v, vs, rfl, hp, hps, hb2⟩
  obtain ⟨ov, cv, hv, hrd⟩ := parts_reads hp
  rw [hps.1, ← HN.out] at hv
  subst hv
  have HP := Lib.hid hps
  have HRd := Lib.hid hrd
  have HB2 := Lib.hid hb2
  have hs2 := hb2.size
  clear hp hps hrd hb2 HC HCut
  go_wp2_with fail
  go_loopw [3, 11] (fun vo iv wr => ∃ i : Nat, i ≤ n ∧ iv = .int .i64 i ∧ ToksIn wr w2.heap.size vo (toksP 0 (placesF 0 ((qs.map termB).take i))) ∧ Below w2.heap.size w2 wr) (fun _ iv _ => n - (intOf iv).toNat)
  case atStart => exact ⟨0, by omega, rfl, World.ownsRow_nil _ _ _ _, Below.refl _ _⟩
  case round =>
    obtain ⟨i, hi, rfl, hown, hlow⟩ := hrel
    have hlow1 : Below w1.heap.size w1 wr := HB2.out.trans (hlow.mono hs2)
    have hlow0 : Below W.heap.size W wr := HB1.out.trans (hlow1.mono HB1.out.size)
    by_cases hlt : i < n
    · obtain ⟨q, hq⟩ : ∃ q, qs[i]? = some q := ⟨_, List.getElem?_eq_getElem (by rw [← HN.out]; exact hlt)⟩
      obtain ⟨x, hx⟩ : ∃ x, vs[i]? = some x := ⟨_, List.getElem?_eq_getElem (by rw [HP.out.1, ← HN.out]; exact hlt)⟩
      obtain ⟨oq, cq, rfl, hq1, hq2, hq3⟩ := HP.out.2 i x q hx hq
      obtain ⟨ad, rfl, hcell0⟩ := HRd.out i _ hx
      have hcell := below_cell hcell0 hlow
      obtain ⟨hql, hqo, hq6⟩ := HQ.out q (List.mem_of_getElem? hq)
      have ht : (qs.map termB)[i]? = some (termB q) := by rw [List.getElem?_map, hq]; rfl
      have hlt2 := term_lt (HTm.out (termB q) (List.mem_of_getElem? ht))
      obtain ⟨m, hm⟩ : ∃ m, q.length = m := ⟨_, rfl⟩
      rw [hm] at hcell hq1 hq6
      have HTe := Lib.hid (lands_term wr oq cq m q hm (HT.out.below hlow0) (hq3.below hlow1) hq1 hq6 hql hqo)
      have HS := Lib.hid (fun w => lands_stop w (byteText (termB q)))
      rw [bytesL_byteText _ hlt2] at HS
      have HPl := Lib.hid (places_take (qs.map termB) i (termB q) ht)
      have HO := Lib.hid hown
      have HL := Lib.hid hlow
      have hpl : (placesF 0 ((qs.map termB).take i)).length ≤ 1000001 := by have := places_len ((qs.map termB).take i) 0; rw [List.length_take] at this; omega
      have HLn := Lib.hid (show (toksP 0 (placesF 0 ((qs.map termB).take i))).length ≤ 1000001 by rw [toksP_length]; exact hpl)
      obtain ⟨y, hy⟩ : ∃ y, y = byteText (termB q) := ⟨_, rfl⟩
      rw [← hy] at HTe HS
      have HY := Lib.hid hy
      generalize termB q = t at HS HPl HY
      clear hown hlow hlow0 hlow1 ht hlt2 hpl hy hx hq hq1 hq2 hq3 hcell0 hql hqo hq6 hm
      by_cases hst : stopB t = true
      · rw [hst] at HS HPl
        go_wp2_with fail
        refine HTe.out.mono ?_; rintro e w5 ⟨rfl, hb5⟩
        have HO5 := Lib.hid (show ToksIn w5 _ _ _ from owned_below HO.out hb5)
        have HL5 := Lib.hid (HL.out.trans (hb5.mono HL.out.size))
        clear hb5 hcell
        go_wp2_with fail
        refine (HS.out _).mono ?_; rintro e w6 ⟨rfl, rfl⟩
        go_wp2_with fail
        go_roundw
        case rel => exact ⟨i + 1, by omega, by go_num, by rw [HPl.out]; simpa using HO5.out, HL5.out⟩
        case measure => simp [intOf]; omega
      · have hsf : stopB t = false := by simpa using hst
        rw [hsf] at HS HPl
        clear hst hsf
        go_wp2_with fail
        refine HTe.out.mono ?_; rintro e w5 ⟨rfl, hb5⟩
        have HO5 := Lib.hid (show ToksIn w5 _ _ _ from owned_below HO.out hb5)
        have HL5 := Lib.hid (HL.out.trans (hb5.mono HL.out.size))
        clear hb5 hcell
        go_wp2_with fail
        refine (HS.out _).mono ?_; rintro e w6 ⟨rfl, rfl⟩
        go_wp2_with (at_builtin; refine wpList_append_own _ rfl (.tmp 21) (.tmp 25) 23 rfl w2.heap.size 42 iT _ 3 32 Tryd.underlying23 HIT.out.1 HIT.out.2.1 HIT.out.2.2.1 HIT.out.2.2.2 rfl (by decide) _ (toksP 0 (placesF 0 ((qs.map termB).take i))).length (toksC (toksP 0 (placesF 0 ((qs.map termB).take i)))) rfl (World.ownsRow.alloc HO5.out _) ⟨w6.heap.size, 0, none⟩ 1 1 [.int .u8 0, .string y, .int .i64 i] rfl rfl three_cells (by simp [Value.oneCell']) (by have := HLn.out; unfold maxLen; omega) (by have := HLn.out; omega) (by have := HL5.out.size; simp; omega) ?_; intro v' w7 ho hg _; have HO6 := Lib.hid (toks_more (x := (0, y, (i : Int))) HL5.out HO5.out ho hg); clear ho hg)
        go_roundw
        case rel => exact ⟨i + 1, by omega, by go_num, by rw [HPl.out]; have := HO6.out.1; rw [HY.out] at this; simpa [toksP] using this, HO6.out.2⟩
        case measure => simp [intOf]; omega
    · have hi' : i = n := by omega
      rw [show (qs.map termB).take i = qs.map termB from List.take_of_length_le (by rw [List.length_map, ← HN.out]; omega)] at hown
      have HO := Lib.hid (show ToksIn wr W.heap.size _ _ from own_base hown (Nat.le_trans HB1.out.size hs2))
      have HL := Lib.hid hlow0
      clear hown hlow hlow0 hlow1
      go_wp2_with fail
      go_ret
      exact ⟨_, rfl, by rw [HWs.out]; exact HO.out, HL.out⟩
end Go.Proofs.YtaaeooimalglaaaDoor
