/-
  A law's walk of layer 6, given what the program's functions keep: one text behind the other. Over the program's own text.
-/
import Derived.Test.YtpfbhafcjipmeaaDoorTokKept
import Derived.Laws.AppendOwnNone
import Derived.Deep.AppendLies
namespace Go.Proofs.YtpfbhafcjipmeaaDoor
open Go.RowKit

theorem readT_cells {w : World} {ad : Addr} {B : List Tk} (h : ReadT w (some ad) B) : ∀ (j : Nat) (u : Value), (toksC B)[j]? = some u → w.cell? (ad.add j) = some u := by
  intro j u hj
  have hl := toksC_length B
  have hj2 := (List.getElem?_eq_some_iff.1 hj).1
  obtain ⟨x, hx⟩ : ∃ x, B[j / 3]? = some x := ⟨_, List.getElem?_eq_getElem (by omega)⟩
  obtain ⟨g, o, he, c0, c1, c2⟩ := h (j / 3) x hx
  injection he with he
  subst he
  obtain ⟨t0, t1, t2⟩ := toksC_get B (j / 3) x hx
  rw [Addr.add_lit]
  have hm : j % 3 = 0 ∨ j % 3 = 1 ∨ j % 3 = 2 := by omega
  rcases hm with hm | hm | hm
  · have e : j = j / 3 * 3 := by omega
    rw [← e] at t0 c0
    rw [t0] at hj
    rw [c0]; exact hj
  · have e : j = j / 3 * 3 + 1 := by omega
    rw [← e] at t1
    rw [show o + j / 3 * 3 + 1 = o + j by omega] at c1
    rw [t1] at hj
    rw [c1]; exact hj
  · have e : j = j / 3 * 3 + 2 := by omega
    rw [← e] at t2
    rw [show o + j / 3 * 3 + 2 = o + j by omega] at c2
    rw [t2] at hj
    rw [c2]; exact hj
theorem toksC_one : ∀ (B : List Tk), ∀ u ∈ toksC B, u.oneCell' = true := by
  intro B u hu
  obtain ⟨x, _, hx⟩ := List.mem_flatMap.1 hu
  simp [tokC] at hx
  rcases hx with rfl | rfl | rfl <;> rfl

/-- Words behind words, wherever they are read. -/
theorem wpList_append_toks {w : World} {ops : Array Oper} {rest : List Oper} {o : Oper} {a : Act} {Q : Exit → Act → World → Prop} (hgd : o.guard = none) (s x : Operand)
    (hop : o.op = .call { callee := .builtin .append, args := #[s, x], argTypes := #[24, 24] })
    (base : Nat) (v : Value) (A B : List Tk) (hs : a.eval s = v) (hown : ToksIn w base v A) (oa : Option Addr) (c n : Nat) (hn : B.length = n) (hx : a.eval x = .slice oa n c) (hB : ReadT w oa B) (h0 : oa = none → c = 0) (hc : n ≤ c)
    (hl : A.length + n ≤ 1000000) (hbase : base ≤ w.heap.size)
    (h : ∀ v' w', ToksIn w' base v' (A ++ B) → w.grownBy w' v.ownBlock → wpList Tryd.prog ops Q rest (a.put o.dst v') w') : wpList Tryd.prog ops Q (o :: rest) a w := by
  obtain ⟨iT, hi, hz0, hz1, hz2⟩ := info_parts info_tok
  subst hn
  cases oa with
  | none =>
    have hc0 := h0 rfl
    have hB0 : B = [] := List.eq_nil_of_length_eq_zero (by omega)
    subst hB0 hc0
    exact wpList_append_own_none hgd s x 24 hop base 40 iT 3 Tryd.underlying24 hi v A.length (toksC A) hs hown hx (h v w (by rw [List.append_nil]; exact hown) (World.grownBy.refl w _))
  | some ad =>
    refine wpList_append_own w hgd s x 24 hop base 40 iT _ 3 32 Tryd.underlying24 hi hz0 hz1 hz2 rfl (by decide) v A.length (toksC A) hs hown ad B.length c (toksC B) hx (toksC_length B) (readT_cells hB) (toksC_one B) (by unfold maxLen; omega) (by omega) hbase ?_
    intro v' w' ho hg _
    refine h v' w' ?_ hg
    unfold ToksIn
    rw [toksC_append, List.length_append]
    exact ho

theorem places_lt : ∀ (l : List (List Nat)) (n : Nat) (x : List Nat × Nat), x ∈ placesF n l → x.2 < n + l.length
  | [], _, _, h => by simp [placesF] at h
  | t :: l, n, x, h => by
    rw [placesF] at h
    split at h
    · have := places_lt l (n + 1) x h
      simp; omega
    · rcases List.mem_cons.1 h with rfl | h
      · simp
      · have := places_lt l (n + 1) x h
        simp; omega

section
variable {T : World → Prop} (K : KeptTok T) (W : World) (hT : T W)
include K hT

set_option maxRecDepth 100000 in
set_option maxHeartbeats 4000000 in
theorem behind_all (a b : ByteArray) (ha : (a.size : Int) ≤ 9223372036854775807) (hb : (b.size : Int) ≤ 9223372036854775807) : Calls Tryd.prog 7 #[.string a, .string b] W fun e w' => e = .returned (.bool true) ∧ Below W.heap.size W w' := by
  obtain ⟨iT, hi, hz0, hz1, hz2⟩ := info_parts info_tok
  have HIT := Lib.hid (And.intro hi (And.intro hz0 (And.intro hz1 hz2)))
  clear hi hz0 hz1 hz2
  have HF := Lib.hid (fun w h => fixed_any K w h)
  have HT := Lib.hid hT
  have HT0 := Lib.hid hT
  by_cases hla : (500 : Int) < (a.size : Int)
  · clear K hT
    go_enter Tryd.func7, Tryd.ntmps7
    go_wp2_with fail
    refine (HF.out _ HT.out).mono ?_; rintro e w' ⟨rfl, _, hb⟩
    go_wp2_with fail
    go_ret
    exact ⟨rfl, hb⟩
  by_cases hlb : (500 : Int) < (b.size : Int)
  · clear K hT
    go_enter Tryd.func7, Tryd.ntmps7
    go_wp2_with fail
    refine (HF.out _ HT.out).mono ?_; rintro e w' ⟨rfl, _, hb⟩
    go_wp2_with fail
    go_ret
    exact ⟨rfl, hb⟩
  have hsum : (a ++ ⟨#[32]⟩ ++ b).size ≤ 1000000 := by rw [ByteArray.size_append, ByteArray.size_append, show (⟨#[32]⟩ : ByteArray).size = 1 from rfl]; omega
  have hwb := words_blank a b ⟨#[32]⟩ rfl
  have hp := fun x (hx : x ∈ wordsT b) => places_lt (allT b) 0 x hx
  have hta := allT_le a
  have htb := allT_le b
  have hwa := words_le a
  have hwlb := words_le b
  have HAll := Lib.hid (ref_all W a (by omega))
  have HWa := Lib.hid (K.words_of a _ (by omega) rfl)
  have HWb := Lib.hid (K.words_own b _ (by omega) rfl)
  have HWs := Lib.hid (K.words_of (a ++ ⟨#[32]⟩ ++ b) _ hsum rfl)
  rw [hwb, toksP_append] at HWs
  have HK := Lib.hid (fun w w' => K.keep w w')
  obtain ⟨na, hna⟩ : ∃ na, (allT a).length = na := ⟨_, rfl⟩
  obtain ⟨m, hm⟩ : ∃ m, (wordsT b).length = m := ⟨_, rfl⟩
  have hwl : (toksP 0 (wordsT a)).length ≤ 501 := by rw [toksP_length]; omega
  have hol : (outT (allT a)).length = na := by rw [outT_length]; exact hna
  rw [hna] at HWs
  have HM := Lib.hid hm
  have HP := Lib.hid (show ∀ x ∈ wordsT b, x.2 ≤ 501 from fun x hx => by have := hp x hx; omega)
  have hml : (toksP 0 (wordsT b)).length = m := by rw [toksP_length]; exact hm
  have hna2 : na ≤ 501 := by omega
  have hm2 : m ≤ 501 := by omega
  generalize toksP 0 (wordsT a) = A at HWa HWs hwl
  generalize outT (allT a) = O at HAll hol
  have HOl := Lib.hid hol
  have HMl := Lib.hid hml
  clear K hT hwb hp hta htb hwa hwlb hna hm hol hml hsum
  go_enter Tryd.func7, Tryd.ntmps7
  go_wp2_with fail
  refine HAll.out.mono ?_
  rintro e w1 ⟨v, rfl, hr, hb⟩
  obtain ⟨oa, ca, hv⟩ := own_slice hr na HOl.out
  subst hv
  have HT := Lib.hid (HK.out _ _ HT.out hb)
  have HB := Lib.hid hb
  clear hr hb HAll
  go_wp2_with fail
  refine (HWa.out _ (HK.out _ _ HT.out below_one)).mono ?_
  rintro e w2 ⟨ob, cb, rfl, hc1, hc2, hc3, hr, ht, hb⟩
  have HT := Lib.hid ht
  have HR := Lib.hid hr
  have HO := Lib.hid (owned_below (World.ownsRow_lit (base := W.heap.size) (e := 40) (size := 3) w1 #[] 0 HB.out.size (by decide) (by simp)) hb)
  have HB := Lib.hid (low_more (low_new HB.out) hb)
  have HC := Lib.hid (And.intro hc1 hc3)
  clear hr ht hb hc1 hc2 hc3
  go_wp2_with (at_builtin; refine wpList_append_toks rfl (.tmp 21) (.tmp 23) rfl W.heap.size _ [] A rfl HO.out ob cb A.length rfl rfl HR.out HC.out.2 HC.out.1 (by simp; omega) HB.out.size ?_; intro v' w3 ho hg; have HO3 := Lib.hid ho; have HB3 := Lib.hid (HB.out.grown hg HB.out.size (fun k hk => (World.ownsRow.lt HO.out k hk).1)); clear ho hg)
  have HT3 := Lib.hid (HK.out _ _ HT0.out HB3.out)
  rw [List.nil_append] at HO3
  clear HO HR HC HT HB
  go_wp2_with fail
  refine (HWb.out _ HT3.out).mono ?_
  rintro e w4 ⟨vl, rfl, hl4, ht, hb⟩
  obtain ⟨ol, cl, hvl⟩ := own_slice hl4 m HMl.out
  have hT2 : Two W w3.heap.size v' vl A (toksP 0 (wordsT b)) w4 := by
    refine ⟨owned_below HO3.out hb, hl4, ?_, HB3.out.size, low_more HB3.out hb⟩
    cases h1 : v'.ownBlock with
    | none => exact .inl rfl
    | some k1 =>
      cases h2 : vl.ownBlock with
      | none => exact .inr (.inl rfl)
      | some k2 =>
        refine .inr (.inr fun e => ?_)
        injection e with e
        have a1 := (World.ownsRow.lt HO3.out k1 h1).2
        have a2 := (World.ownsRow.lt hl4 k2 h2).1
        omega
  subst hvl
  obtain ⟨b2, hb2⟩ : ∃ b2, b2 = w3.heap.size := ⟨_, rfl⟩
  rw [← hb2] at hT2
  have HTw := Lib.hid hT2
  clear hl4 ht hb hT2 hb2 HO3 HB3 HT3
  go_wp2_with fail
  go_loopw [6, 28] (fun vo kv wr => ∃ k : Nat, k ≤ m ∧ kv = .int .i64 k ∧ Two W b2 vo (.slice ol m cl) (A ++ toksP 0 (((wordsT b).take k).map fun x => (x.1, x.2 + na))) (toksP 0 (wordsT b)) wr) (fun _ kv _ => m - (intOf kv).toNat)
  case atStart => exact ⟨0, by omega, rfl, by simpa [toksP] using HTw.out⟩
  case round =>
    obtain ⟨k, hk, rfl, hT⟩ := hrel
    by_cases hkm : k < m
    · obtain ⟨y, hy⟩ : ∃ y, (wordsT b)[k]? = some y := ⟨_, List.getElem?_eq_getElem (by rw [HM.out]; exact hkm)⟩
      have hBk : (toksP 0 (wordsT b))[k]? = some ((0 : Int), byteText y.1, (y.2 : Int)) := by simp [toksP, hy]
      obtain ⟨g, off, c00, c0, c1, c2⟩ := hT.reads k _ hBk
      subst c00
      simp only at c0 c1 c2
      have hy5 := HP.out y (List.mem_of_getElem? hy)
      have hAk : A ++ toksP 0 (((wordsT b).take (k + 1)).map fun x => (x.1, x.2 + na)) = (A ++ toksP 0 (((wordsT b).take k).map fun x => (x.1, x.2 + na))) ++ [((0 : Int), byteText y.1, ((y.2 : Nat) : Int) + (na : Int))] := by
        rw [List.take_add_one, hy]
        simp [toksP]
      have hal : (A ++ toksP 0 (((wordsT b).take k).map fun x => (x.1, x.2 + na))).length ≤ 1002 := by
        rw [List.length_append, toksP_length, List.length_map, List.length_take]
        omega
      obtain ⟨n1, hn1⟩ : ∃ n1, (A ++ toksP 0 (((wordsT b).take k).map fun x => (x.1, x.2 + na))).length = n1 := ⟨_, rfl⟩
      rw [hn1] at hal
      have HAl := Lib.hid hn1
      have HNext := Lib.hid (fun (vo : Value) (w' : World) (h : Two W b2 vo (.slice (some ⟨g, off, none⟩) m cl) ((A ++ toksP 0 (((wordsT b).take k).map fun x => (x.1, x.2 + na))) ++ [((0 : Int), byteText y.1, ((y.2 : Nat) : Int) + (na : Int))]) (toksP 0 (wordsT b)) w') => show Two W b2 vo (.slice (some ⟨g, off, none⟩) m cl) (A ++ toksP 0 (((wordsT b).take (k + 1)).map fun x => (x.1, x.2 + na))) (toksP 0 (wordsT b)) w' by rw [hAk]; exact h)
      have HT2 := Lib.hid hT
      generalize A ++ toksP 0 (((wordsT b).take k).map fun x => (x.1, x.2 + na)) = A2 at HAl HNext HT2
      generalize byteText y.1 = x at c1 HNext
      have hp0 : (0 : Int) ≤ ((y.2 : Nat) : Int) := by omega
      have hp1 : ((y.2 : Nat) : Int) ≤ 501 := by omega
      generalize ((y.2 : Nat) : Int) = p at c2 HNext hp0 hp1
      clear hT hBk hy hAk hn1 hy5
      obtain ⟨ob, hob⟩ : ∃ ob, ob = Obj.cells #[.int .u8 0, .string x, .int .i64 (p + (na : Int))] 40 := ⟨_, rfl⟩
      have HT3 := Lib.hid ((HT2.out.alloc ob).alloc ob)
      have hh : ((wr.alloc ob).alloc ob).heap[wr.heap.size + 1]? = some ob := by
        have := heap_alloc_new (wr.alloc ob) ob
        simpa using this
      subst hob
      have HNews := Lib.hid (news_of hh)
      clear hh HT2
      go_wp2_with (at_builtin; refine wpList_append_lies _ rfl (.tmp 37) (.tmp 39) 24 rfl W.heap.size 40 iT _ 3 32 Tryd.underlying24 HIT.out.1 HIT.out.2.1 HIT.out.2.2.1 HIT.out.2.2.2 rfl (by decide) _ n1 (toksC A2) rfl (by have := HT3.out.out; unfold ToksIn at this; rw [HAl.out] at this; exact this) ⟨wr.heap.size + 1, 0, none⟩ 1 1 [.int .u8 0, .string x, .int .i64 (p + (na : Int))] rfl rfl HNews.out (by simp [Value.oneCell']) (by decide) (by unfold maxLen; omega) (by omega) HT3.out.low.size _ rfl ?_; intro g' c' w6 ho2 hg2 hl2 _; have HN6 := Lib.hid (HNext.out _ _ (HT3.out.more (x := ((0 : Int), x, p + (na : Int))) (g := g') (cap := c') (by rw [HAl.out]; exact ho2) hg2 hl2)); rw [HAl.out] at HN6; clear ho2 hg2 hl2)
      go_roundw
      case rel => exact ⟨k + 1, by omega, by go_num, HN6.out⟩
      case measure => simp [intOf]; omega
    · have hk' : m = k := by omega
      subst hk'
      rw [show (wordsT b).take m = wordsT b from List.take_of_length_le (by rw [HM.out]; omega)] at hT
      obtain ⟨oo, co, hoo⟩ := own_slice hT.out _ rfl
      subst hoo
      have hsl : (A ++ toksP 0 ((wordsT b).map fun x => (x.1, x.2 + na))).length ≤ 1000000 := by
        rw [List.length_append, toksP_length, List.length_map, HM.out]; omega
      have hrd : ReadT wr oo (A ++ toksP 0 ((wordsT b).map fun x => (x.1, x.2 + na))) := by
        obtain ⟨o2, c2, he, _, _, hr⟩ := toks_reads hT.out
        injection he with h1 _ _
        rw [h1]; exact hr
      have HRd := Lib.hid hrd
      have HBw := Lib.hid hT.low
      have HTn := Lib.hid (HK.out _ _ HT0.out hT.low)
      generalize A ++ toksP 0 ((wordsT b).map fun x => (x.1, x.2 + na)) = R at HRd HWs hsl
      clear hT hrd
      go_wp2_with fail
      refine (HF.out _ HTn.out).mono ?_; rintro e w6 ⟨rfl, ht, hb⟩
      have HT6 := Lib.hid ht; have HRd := Lib.hid (HRd.out.below hb); have HBw := Lib.hid (low_more HBw.out hb); clear ht hb
      go_wp2_with fail
      refine (HWs.out _ HT6.out).mono ?_; rintro e w7 ⟨o7, c7, rfl, _, _, _, hr, _, hb⟩
      have HRd := Lib.hid (HRd.out.below hb); have HR7 := Lib.hid hr; have HBw := Lib.hid (low_more HBw.out hb); clear hr hb
      go_wp2_with fail
      refine (same_toks _ o7 oo c7 co R R HR7.out HRd.out hsl).mono ?_; rintro e w8 ⟨rfl, hb⟩
      rw [decide_eq_true rfl]
      have HBw := Lib.hid (low_more HBw.out hb); clear hb
      go_wp2_with fail
      go_ret
      exact ⟨rfl, HBw.out⟩
end
end Go.Proofs.YtpfbhafcjipmeaaDoor
