/-
  The reference of layer 6: the words that are no stop words. Over the program's own text.
-/
import Derived.Test.YtpfbhafcjipmeaaDoorTokAll
namespace Go.Proofs.YtpfbhafcjipmeaaDoor
open Go.RowKit

/-- Words of field f at their places. -/
def toksP (f : Int) (l : List (List Nat × Nat)) : List Tk := l.map fun x => (f, byteText x.1, (x.2 : Int))
theorem toksP_append (f : Int) (a b : List (List Nat × Nat)) : toksP f (a ++ b) = toksP f a ++ toksP f b := by simp [toksP]
theorem toksP_length (f : Int) (a : List (List Nat × Nat)) : (toksP f a).length = a.length := by simp [toksP]
theorem own_base {e : TypeId} {size n base base' : Nat} {v : Value} {xs : List Value} {w : World} (h : w.ownsRow base e size v n xs) (hb : base' ≤ base) : w.ownsRow base' e size v n xs := by
  obtain ⟨h0, h | ⟨g, cap, cur, h1, h2, h3⟩⟩ := h
  · exact ⟨h0, .inl h⟩
  · exact ⟨h0, .inr ⟨g, cap, cur, h1, by omega, h3⟩⟩
theorem toks_more {w w1 w2 : World} {v v' : Value} {l : List Tk} {x : Tk} {o : Obj} (hl : Below w.heap.size w w1) (hr : ToksIn w1 w.heap.size v l)
    (ho : w2.ownsRow w.heap.size 40 3 v' (l.length + 1) (toksC l ++ [.int .u8 x.1, .string x.2.1, .int .i64 x.2.2])) (hg : (w1.alloc o).grownBy w2 v.ownBlock) :
    ToksIn w2 w.heap.size v' (l ++ [x]) ∧ Below w.heap.size w w2 :=
  ⟨by unfold ToksIn; rw [toksC_append]; simpa [toksC, tokC] using ho, (hl.alloc hl.size _).grown hg (by have := hl.size; simp; omega) (fun k hk => (World.ownsRow.lt hr k hk).1)⟩
theorem outT_get (o : List (List Nat)) (i : Nat) (t : List Nat) (h : o[i]? = some t) : (outT o)[i]? = some ((0 : Int), byteText t, (i : Int)) := by
  unfold outT
  rw [List.getElem?_map, List.getElem?_zipIdx, h]
  simp
theorem places_take (o : List (List Nat)) (i : Nat) (t : List Nat) (h : o[i]? = some t) : placesF 0 (o.take (i + 1)) = placesF 0 (o.take i) ++ (if stopB t then [] else [(t, i)]) := by
  have hl : (o.take i).length = i := by rw [List.length_take]; have := (List.getElem?_eq_some_iff.1 h).1; omega
  rw [List.take_add_one, h, Option.toList_some, places_append, hl, Nat.zero_add, placesF, placesF]
theorem allT_le (s : ByteArray) : (allT s).length ≤ s.size + 1 := by
  have h := run_out_le (runesOf s ++ [32]) tok0
  have h2 := (runesOf_many s).1
  simp [tok0] at h
  unfold allT allR
  simp only [tok0] at *
  omega
theorem term_lt {t : List Nat} (h : Term t) : ∀ b ∈ t, b < 256 := by
  obtain ⟨q, _, rfl, hq⟩ := h.ex
  intro b hb
  obtain ⟨x, hx, hbx⟩ := List.mem_flatMap.1 hb
  exact encR_byte x (hq x hx).1 b hbx

set_option maxRecDepth 100000 in
set_option maxHeartbeats 4000000 in
theorem ref_words (W : World) (s : ByteArray) (hs : s.size ≤ 1000000) :
    Calls Tryd.prog 12 #[.string s] W fun e w' => ∃ v, e = .returned v ∧ ToksIn w' W.heap.size v (toksP 0 (wordsT s)) ∧ Below W.heap.size W w' := by
  obtain ⟨iT, hi, hz0, hz1, hz2⟩ := info_parts info_tok
  have HIT := Lib.hid (And.intro hi (And.intro hz0 (And.intro hz1 hz2)))
  have HAll := Lib.hid (ref_all W s hs)
  have HTm := Lib.hid (allT_term s)
  have HW := Lib.hid (show wordsT s = placesF 0 (allT s) from rfl)
  have hle := allT_le s
  generalize allT s = o at *
  obtain ⟨n, hn⟩ : ∃ n, n = o.length := ⟨_, rfl⟩
  have hn2 : n ≤ 1000001 := by omega
  have HN := Lib.hid hn
  clear hi hz0 hz1 hz2 hle hn
  go_enter Tryd.func12, Tryd.ntmps12
  go_wp2_with fail
  refine HAll.out.mono ?_
  rintro e w1 ⟨v, rfl, hr, hb⟩
  obtain ⟨oa, cap, hv, hc1, hc2, hrd⟩ := toks_reads hr
  rw [outT_length, ← HN.out] at hv
  subst hv
  have HR := Lib.hid hrd
  have HB := Lib.hid hb
  have hsz := hb.size
  clear hrd hb hr HAll hc1 hc2
  go_wp2_with fail
  go_loopw [4, 11] (fun vo iv wr => ∃ i : Nat, i ≤ n ∧ iv = .int .i64 i ∧ ToksIn wr w1.heap.size vo (toksP 0 (placesF 0 (o.take i))) ∧ Below w1.heap.size w1 wr) (fun _ iv _ => n - (intOf iv).toNat)
  case atStart => exact ⟨0, by omega, rfl, owned_lit0 w1 _ _, below_one⟩
  case round =>
    obtain ⟨i, hi, rfl, hown, hlow⟩ := hrel
    by_cases hlt : i < n
    · obtain ⟨t, ht⟩ : ∃ t, o[i]? = some t := ⟨_, List.getElem?_eq_getElem (by rw [← HN.out]; exact hlt)⟩
      obtain ⟨g, off, rfl, c0, c1, c2⟩ := (HR.out.below hlow) i _ (outT_get o i t ht)
      simp only at c0 c1 c2
      have hlt2 := term_lt (HTm.out t (List.mem_of_getElem? ht))
      have HS := Lib.hid (fun w => ref_stop w (byteText t))
      rw [bytesL_byteText t hlt2] at HS
      have HP := Lib.hid (places_take o i t ht)
      have HO := Lib.hid hown
      have HL := Lib.hid hlow
      have hpl : (placesF 0 (o.take i)).length ≤ 1000001 := by have := places_len (o.take i) 0; rw [List.length_take] at this; omega
      have HPl := Lib.hid (show (toksP 0 (placesF 0 (o.take i))).length ≤ 1000001 by rw [toksP_length]; exact hpl)
      obtain ⟨x, hx⟩ : ∃ x, x = byteText t := ⟨_, rfl⟩
      rw [← hx] at c1 HS
      have HX := Lib.hid hx
      clear hown hlow ht hlt2 hpl hx
      by_cases hst : stopB t = true
      · rw [hst] at HS HP
        go_wp2_with fail
        refine (HS.out _).mono ?_; rintro e w5 ⟨rfl, hb5⟩
        have HO5 := Lib.hid (show ToksIn w5 _ _ _ from owned_below HO.out hb5)
        have HL5 := Lib.hid (HL.out.trans (hb5.mono HL.out.size))
        clear hb5
        go_wp2_with fail
        go_roundw
        case rel => exact ⟨i + 1, by omega, by go_num, by rw [HP.out]; simpa using HO5.out, HL5.out⟩
        case measure => simp [intOf]; omega
      · have hsf : stopB t = false := by simpa using hst
        rw [hsf] at HS HP
        clear hst hsf
        go_wp2_with fail
        refine (HS.out _).mono ?_; rintro e w5 ⟨rfl, hb5⟩
        have HO5 := Lib.hid (show ToksIn w5 _ _ _ from owned_below HO.out hb5)
        have HL5 := Lib.hid (HL.out.trans (hb5.mono HL.out.size))
        have d0 := below_cell c0 hb5
        have d1 := below_cell c1 hb5
        have d2 := below_cell c2 hb5
        clear hb5 c0 c1 c2 HO HL
        go_wp2_with (at_builtin; refine wpList_append_own _ rfl (.tmp 21) (.tmp 26) 24 rfl w1.heap.size 40 iT _ 3 32 Tryd.underlying24 HIT.out.1 HIT.out.2.1 HIT.out.2.2.1 HIT.out.2.2.2 rfl (by decide) _ (toksP 0 (placesF 0 (o.take i))).length (toksC (toksP 0 (placesF 0 (o.take i)))) rfl (World.ownsRow.alloc HO5.out _) ⟨w5.heap.size, 0, none⟩ 1 1 [.int .u8 0, .string x, .int .i64 i] rfl rfl three_cells (by simp [Value.oneCell']) (by have := HPl.out; unfold maxLen; omega) (by have := HPl.out; omega) (by have := HL5.out.size; simp; omega) ?_; intro v' w6 ho hg _; have HO6 := Lib.hid (toks_more (x := (0, x, (i : Int))) HL5.out HO5.out ho hg); clear ho hg)
        go_roundw
        case rel => exact ⟨i + 1, by omega, by go_num, by rw [HP.out]; have := HO6.out.1; rw [HX.out] at this; simpa [toksP] using this, HO6.out.2⟩
        case measure => simp [intOf]; omega
    · have hi' : i = n := by omega
      rw [show o.take i = o from List.take_of_length_le (by rw [← HN.out]; omega)] at hown
      have HO := Lib.hid (show ToksIn wr W.heap.size _ _ from own_base hown hsz)
      have HL := Lib.hid (HB.out.trans (hlow.mono hsz))
      clear hown hlow
      go_wp2_with fail
      go_ret
      exact ⟨_, rfl, by rw [HW.out]; exact HO.out, HL.out⟩
end Go.Proofs.YtpfbhafcjipmeaaDoor
