/-
  Two laws' walks of layer 6, given what the program's functions keep: the words of any text, the words of any fields. Over the program's own text.
-/
import Derived.Test.YtpfbhafcjipmeaaDoorTokKept
namespace Go.Proofs.YtpfbhafcjipmeaaDoor
open Go.RowKit

section
variable {T : World → Prop} (K : KeptTok T) (W : World) (hT : T W)
include K hT

set_option maxRecDepth 100000 in
set_option maxHeartbeats 2000000 in
theorem words_all (s : ByteArray) (hs : (s.size : Int) ≤ 9223372036854775807) : Calls Tryd.prog 3 #[.string s] W fun e w' => e = .returned (.bool true) ∧ Below W.heap.size W w' := by
  have HF := Lib.hid (fixed_any K W hT)
  by_cases hlen : (1000 : Int) < (s.size : Int)
  · clear K hT
    go_enter Tryd.func3, Tryd.ntmps3
    go_wp2_with fail
    refine HF.out.mono ?_; rintro e w' ⟨rfl, _, hb⟩
    go_wp2_with fail
    go_ret
    exact ⟨rfl, hb⟩
  · have hle : s.size ≤ 1000000 := by omega
    have hll : (toksP 0 (wordsT s)).length ≤ 1000000 := by rw [toksP_length]; have := words_le s; omega
    have HW := Lib.hid (K.words_of s _ hle rfl)
    have HSt := Lib.hid (K.stop_of s hle)
    have HK := Lib.hid (fun w w' => K.keep w w')
    have HR := Lib.hid (fun w => ref_words w s hle)
    have HR2 := Lib.hid (fun w => ref_stop w s)
    generalize stopB (bytesL s) = b at HSt HR2
    generalize toksP 0 (wordsT s) = L at HW HR hll
    clear K hT hle
    go_enter Tryd.func3, Tryd.ntmps3
    go_wp2_with fail
    refine HF.out.mono ?_; rintro e w1 ⟨rfl, ht, hb⟩
    have HT := Lib.hid ht; have HB := Lib.hid hb; clear ht hb
    go_wp2_with fail
    refine (HW.out _ HT.out).mono ?_; rintro e w2 ⟨oa, c, rfl, _, _, _, hr, ht, hb⟩
    have HA := Lib.hid hr; have HT := Lib.hid ht; have HB := Lib.hid (low_more HB.out hb); clear hr ht hb
    go_wp2_with fail
    refine (HR.out _).mono ?_; rintro e w3 ⟨v, rfl, hr, hb⟩
    obtain ⟨ob, cb, rfl, _, _, hrd⟩ := toks_reads hr
    have HA := Lib.hid (HA.out.below hb); have HRd := Lib.hid hrd; have HT := Lib.hid (HK.out _ _ HT.out hb); have HB := Lib.hid (low_more HB.out hb); clear hr hrd hb
    go_wp2_with fail
    refine (same_toks _ oa ob c cb L L HA.out HRd.out hll).mono ?_; rintro e w4 ⟨rfl, hb⟩
    rw [decide_eq_true rfl]
    have HT := Lib.hid (HK.out _ _ HT.out hb); have HB := Lib.hid (low_more HB.out hb); clear hb
    go_wp2_with fail
    refine (HSt.out _ HT.out).mono ?_; rintro e w5 ⟨rfl, _, hb⟩
    have HB := Lib.hid (low_more HB.out hb); clear hb
    go_wp2_with fail
    refine (HR2.out _).mono ?_; rintro e w6 ⟨rfl, hb⟩
    have HB := Lib.hid (low_more HB.out hb); clear hb
    go_wp2_with fail
    go_ret
    exact ⟨by cases b <;> rfl, HB.out⟩

set_option maxRecDepth 100000 in
set_option maxHeartbeats 2000000 in
theorem docs_all (oa : Option Addr) (c : Nat) (F : List ByteArray) (hF : ReadS W oa F) (hc : F.length ≤ c) (hm : c ≤ maxLen) (hx : ∀ x ∈ F, (x.size : Int) ≤ 9223372036854775807) :
    Calls Tryd.prog 4 #[.slice oa F.length c] W fun e w' => e = .returned (.bool true) ∧ Below W.heap.size W w' := by
  have HF := Lib.hid (fun w h => fixed_any K w h)
  have HX := Lib.hid hx
  have HRd := Lib.hid hF
  have HT := Lib.hid hT
  have HKt := Lib.hid (fun (n : Nat) h1 h2 h3 => K.tokens_of F n h1 h2 h3)
  have HK := Lib.hid (fun w w' => K.keep w w')
  have HRf := Lib.hid (fun w oa c h h1 h2 => ref_tokens w oa c F h h1 h2)
  obtain ⟨n, hn⟩ : ∃ n, F.length = n := ⟨_, rfl⟩
  have HN := Lib.hid hn
  rw [hn] at hc HRf ⊢
  have hmx : n ≤ 9223372036854775807 := by unfold maxLen at hm; omega
  clear K hT hF hn hx
  go_enter Tryd.func4, Tryd.ntmps4
  go_wp2_with fail
  go_loopw [11] (fun iv wr => ∃ i : Nat, i ≤ n ∧ i ≤ 21 ∧ iv = .int .i64 i ∧ wr = W ∧ ∀ j x, j < i → F[j]? = some x → x.size ≤ 2000) (fun iv _ => n - (intOf iv).toNat)
  case atStart => exact ⟨0, by omega, by omega, rfl, rfl, fun j x hj => by omega⟩
  case round =>
    obtain ⟨i, hi, hi21, rfl, rfl, hok⟩ := hrel
    have HOk := Lib.hid hok
    clear hok
    by_cases hlt : i < n
    · obtain ⟨x, hx⟩ : ∃ x, F[i]? = some x := ⟨_, List.getElem?_eq_getElem (by rw [HN.out]; exact hlt)⟩
      obtain ⟨g, off, hoa, c0⟩ := HRd.out i x hx
      subst hoa
      have hxs := HX.out x (List.mem_of_getElem? hx)
      have HXx := Lib.hid hx
      clear hx
      by_cases h20 : (20 : Int) < (i : Int)
      · go_wp2_with fail
        refine (HF.out _ HT.out).mono ?_; rintro e w1 ⟨rfl, _, hb⟩
        have HB := Lib.hid hb
        clear hb
        go_wp2_with fail
        go_ret
        exact ⟨rfl, HB.out⟩
      · by_cases hbig : (2000 : Int) < (x.size : Int)
        · go_wp2_with fail
          refine (HF.out _ HT.out).mono ?_; rintro e w1 ⟨rfl, _, hb⟩
          have HB := Lib.hid hb
          clear hb
          go_wp2_with fail
          go_ret
          exact ⟨rfl, HB.out⟩
        · go_wp2_with fail
          go_roundw
          case rel =>
            refine ⟨i + 1, by omega, by omega, by go_num, trivial, fun j y hj hy => ?_⟩
            by_cases hji : j < i
            · exact HOk.out j y hji hy
            · obtain rfl : j = i := by omega
              rw [HXx.out] at hy
              cases hy
              omega
          case measure => simp [intOf]; omega
    · have hi' : n = i := by omega
      subst hi'
      have hsm : ∀ x ∈ F, x.size ≤ 1000000 := by
        intro x hx
        obtain ⟨j, hj⟩ := List.getElem?_of_mem hx
        have := HOk.out j x (by have := (List.getElem?_eq_some_iff.1 hj).1; rw [HN.out] at this; omega) hj
        omega
      have hll : (docL F).length ≤ 1000000 := by
        unfold docL
        split
        · simp
        · rename_i hb
          unfold badF at hb
          omega
      have HKt := Lib.hid (HKt.out n HN.out hsm (by omega))
      have HRf := Lib.hid (fun w oa c h => HRf.out w oa c h hsm (by omega))
      generalize docL F = L at HKt HRf hll
      generalize docE F = E at HKt HRf
      clear HOk HX hsm
      go_wp2_with fail
      refine (HKt.out _ _ _ HT.out HRd.out hc hm).mono ?_
      rintro e w1 ⟨ob, d, rfl, hr, ht, hb⟩
      have HA := Lib.hid hr; have HT := Lib.hid ht; have HB := Lib.hid hb; have HRd := Lib.hid (HRd.out.below hb); clear hr ht hb
      go_wp2_with fail
      refine (HRf.out _ _ _ HRd.out).mono ?_
      rintro e w2 ⟨v, rfl, hr, hb⟩
      obtain ⟨oc, cc, rfl, _, _, hrd⟩ := toks_reads hr
      have HA := Lib.hid (HA.out.below hb); have HR2 := Lib.hid hrd; have HT := Lib.hid (HK.out _ _ HT.out hb); have HB := Lib.hid (low_more HB.out hb); clear hr hrd hb
      go_wp2_with fail
      refine (HF.out _ HT.out).mono ?_; rintro e w3 ⟨rfl, _, hb⟩
      have HA := Lib.hid (HA.out.below hb); have HR2 := Lib.hid (HR2.out.below hb); have HB := Lib.hid (low_more HB.out hb); clear hb
      go_wp2_with fail
      refine (same_toks _ ob oc d cc L L HA.out HR2.out hll).mono ?_; rintro e w4 ⟨rfl, hb⟩
      rw [decide_eq_true rfl]
      have HB := Lib.hid (low_more HB.out hb); clear hb
      go_wp2_with fail
      go_ret
      exact ⟨rfl, HB.out⟩
end
end Go.Proofs.YtpfbhafcjipmeaaDoor
