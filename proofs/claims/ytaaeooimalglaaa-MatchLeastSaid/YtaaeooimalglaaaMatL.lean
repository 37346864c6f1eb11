/-
  Layer 18's statements of phrases: whatever terms and lists come in. Over the program's own text.
-/
import Derived.Test.YtaaeooimalglaaaMatJ
import Derived.Test.YtaaeooimalglaaaMatK
namespace Go.Proofs.Ytaaeooimalglaaa
open Go.RowKit

theorem phrase_few {m k : Nat} {T : List Tk} {L : List (List En)} (h : RightOk m k L) : (phraseN T L).length ≤ 1000000 := by
  by_cases hb : badT T L
  · rw [phrase_bad hb]; simp
  · rw [phrase_good hb]
    cases L with
    | nil => simp [phraseF]
    | cons l L =>
      have hl := (h.2.2 l (by simp)).1
      have := phrase_many (T := T) (L := l :: L) (l0 := l) (k := l.length) hl
      rw [List.take_length] at this
      show (phraseF T (l :: L) l).length ≤ _
      omega
set_option maxRecDepth 100000 in
set_option maxHeartbeats 4000000 in
theorem phrases18 (W : World) (ta la : Option Addr) (tc lc m k : Nat) (T : List Tk) (L : List (List En)) (hT : ReadT W ta T) (hm : m = T.length) (hL : ReadEs W la L) (hk : k = L.length) :
    Calls Try.prog 3 #[.slice ta m tc, .slice la k lc] W fun e w' => e = .returned (.bool true) ∧ Below W.heap.size W w' := by
  have HR := Lib.hid (right_any W ta la tc lc m k L hL hk)
  have HT := Lib.hid (And.intro hT hm)
  have HL := Lib.hid (And.intro hL hk)
  clear hT hm hL hk
  go_enter Try.func3, Try.ntmps3
  go_wp2_with fail
  refine HR.out.mono ?_
  rintro e w1 ⟨⟨b, rfl, hb⟩, hb1⟩
  have HB1 := Lib.hid hb1
  have HF := Lib.hid (fixed18 w1)
  clear hb1
  cases b with
  | false =>
    clear hb
    go_wp2_with fail
    refine HF.out.mono ?_
    rintro e w2 ⟨rfl, hb2⟩
    have HB2 := Lib.hid (low_more HB1.out hb2)
    clear hb2
    go_wp2_with fail
    go_ret
    exact ⟨rfl, HB2.out⟩
  | true =>
    have HOk := Lib.hid (hb rfl)
    clear hb
    go_wp2_with fail
    refine HF.out.mono ?_
    rintro e w2 ⟨rfl, hb2⟩
    have HB2 := Lib.hid (low_more HB1.out hb2)
    have HP := Lib.hid (phrase_any w2 ta la tc lc m k T L (HT.out.1.below HB2.out) HT.out.2 (ReadEs.below HL.out.1 HB2.out) HL.out.2 (by have := HOk.out.1; omega) (by have := HOk.out.2.1; omega) HOk.out.2.2)
    clear hb2 HF
    go_wp2_with fail
    refine HP.out.mono ?_
    rintro e w3 ⟨u, rfl, hu, hb3⟩
    have HB3 := Lib.hid (low_more HB2.out hb3)
    have HU := Lib.hid hu.reads
    have HP2 := Lib.hid (ref_phrase w3 ta la tc lc m k T L (HT.out.1.below HB3.out) HT.out.2 (ReadEs.below HL.out.1 HB3.out) HL.out.2 (by have := HOk.out.1; omega) (by have := HOk.out.2.1; omega) HOk.out.2.2)
    clear hb3 hu HP
    go_wp2_with fail
    refine HP2.out.mono ?_
    rintro e w4 ⟨v, rfl, hv, hb4⟩
    have HB4 := Lib.hid (low_more HB3.out hb4)
    have HS := Lib.hid (same_found w4 u v _ (HU.out.below hb4) hv.reads (phrase_few HOk.out))
    clear hb4 hv HP2
    go_wp2_with fail
    refine HS.out.mono ?_
    rintro e w5 ⟨rfl, hb5⟩
    have HB5 := Lib.hid (low_more HB4.out hb5)
    clear hb5
    go_wp2_with fail
    go_ret
    exact ⟨rfl, HB5.out⟩
end Go.Proofs.Ytaaeooimalglaaa
