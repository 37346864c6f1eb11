/-
  The reference of layer 8: all numbers of a row of bytes. Over the program's own text.
-/
import Derived.Test.YtdfcbkjhcnbheaaVlqRef
namespace Go.Proofs.Ytdfcbkjhcnbheaa
open Go.RowKit

set_option maxRecDepth 100000 in
set_option maxHeartbeats 2000000 in
theorem ref_all (W : World) (oa : Option Addr) (c N : Nat) (L : List Nat) (en : L.length = N) (ha : ReadN .u8 W oa L) (hl : N ≤ 1000000) (hx : ∀ x ∈ L, x < 256) :
    Calls Try.prog 16 #[.slice oa N c] W fun e w' => ∃ v, e = .returned (.tuple #[v, .int .i64 ((allR L).2 : Int)]) ∧ OwnN 22 .u32 w' W.heap.size v (allR L).1 ∧ Below W.heap.size W w' := by
  obtain ⟨i0, hi, hz0, hz1, hz2⟩ := info_parts info_u32
  have HI := Lib.hid (And.intro hi (And.intro hz0 (And.intro hz1 hz2)))
  clear hi hz0 hz1 hz2
  have HA := Lib.hid ha
  have HX := Lib.hid hx
  have HEn := Lib.hid en
  clear ha hx en
  go_enter Try.func16, Try.ntmps16
  go_wp2_with fail
  go_loopw [4, 5] (fun v av wr => ∃ (a : Nat) (acc : List Nat), a ≤ N ∧ acc.length ≤ a ∧ av = .int .i64 (a : Int) ∧ Hid (allOn acc (L.drop a) = allR L) ∧ OwnN 22 .u32 wr W.heap.size v acc ∧ Below W.heap.size W wr) (fun _ av _ => N - (intOf av).toNat)
  case atStart => exact ⟨0, [], by omega, by simp, rfl, Lib.hid (by rw [List.drop_zero]; exact allOn_start L), OwnN.new _ _ W _ (Nat.le_refl _), below_one⟩
  case round =>
    obtain ⟨a, acc, haN, hal, rfl, HR, hown, hlow⟩ := hrel
    have HO := Lib.hid hown
    have HW := Lib.hid hlow
    clear hown hlow
    by_cases hlt : a < N
    · have hlt1 : (a : Int) < (N : Int) := by omega
      have hne : L.drop a ≠ [] := by
        intro e
        have := congrArg List.length e
        rw [List.length_drop, HEn.out] at this
        simp at this
        omega
      have hbd : ∀ b ∈ L.drop a, b < 256 := fun b hb => HX.out b (List.mem_of_mem_drop hb)
      have hG := ref_get wr oa c N L (a : Int) HEn.out (HA.out.below HW.out) hl HX.out (by omega) (by omega)
      generalize hq : getR 5 (L.drop a) = q at *
      obtain ⟨n, k, e⟩ := q
      rw [getA_in (by have := HEn.out; omega) hq] at hG
      by_cases he : e = 0
      · subst he
        rw [if_pos rfl] at hG
        have hst := allOn_step acc hne hbd (by rw [hq])
        rw [hq] at hst
        simp only at hst
        have hgl := get_len hbd (by rw [hq])
        rw [hq, List.length_drop, HEn.out] at hgl
        simp only at hgl
        rw [List.drop_drop] at hst
        obtain ⟨b, hb⟩ : ∃ b, b = a + k := ⟨_, rfl⟩
        simp only at hG
        rw [← hb] at hst
        rw [show (a : Int) + (k : Int) = (b : Int) by omega] at hG
        have HG := Lib.hid hG
        have HST := Lib.hid (show allOn (acc ++ [n]) (L.drop b) = allR L by rw [← hst, HR.out])
        have hbN : b ≤ N ∧ a < b := by omega
        have hn : n < 4294967296 := hgl.2.2
        clear hG hst hgl hb hq hne hbd
        go_wp2_with fail
        refine HG.out.mono ?_; rintro e w' ⟨rfl, hw⟩
        subst hw
        go_wp2_with (at_builtin; refine wpList_append_own _ rfl (.tmp 24) (.tmp 26) 35 rfl W.heap.size 22 i0 _ 1 4 Try.underlying35 HI.out.1 HI.out.2.1 HI.out.2.2.1 HI.out.2.2.2 rfl (by decide) _ acc.length (numC .u32 acc) rfl (World.ownsRow.alloc HO.out _) ⟨_, 0, none⟩ 1 1 [.int .u32 n] rfl rfl one_cell (by simp [Value.oneCell']) (by unfold maxLen; omega) (by omega) (by have := HW.out.size; simp; omega) ?_; intro v' w5 ho hg _; have HO5 := Lib.hid (OwnN.more (m := [n]) HW.out HO.out ho hg); clear ho hg)
        go_roundw
        case rel => exact ⟨b, acc ++ [n], hbN.1, by simp; omega, rfl, HST, HO5.out.1, HO5.out.2⟩
        case measure => simp [intOf]; omega
      · rw [if_neg he] at hG
        have hst := allOn_bad acc hne (by rw [hq]; exact he)
        rw [hq, HR.out] at hst
        simp only at hst hG
        have HG := Lib.hid hG
        have HST := Lib.hid hst
        have he1 : ((e : Int) != 0) = true := bne_iff_ne.2 (by omega)
        clear hG hst hq hne hbd
        go_wp2_with fail
        refine HG.out.mono ?_; rintro e' w' ⟨rfl, hw⟩
        subst hw
        go_wp2_with fail
        go_ret2
        rw [HST.out]
        exact ⟨_, rfl, OwnN.nil _ _ _ _, HW.out⟩
    · obtain rfl : a = N := by omega
      have hlt1 : ¬ (a : Int) < (a : Int) := by omega
      have hst := HR.out
      rw [List.drop_eq_nil_of_le (by have := HEn.out; omega), allOn_nil] at hst
      have HST := Lib.hid hst
      clear hst
      go_wp2_with fail
      go_ret2
      rw [← HST.out]
      exact ⟨_, rfl, HO.out, HW.out⟩
end Go.Proofs.Ytdfcbkjhcnbheaa
