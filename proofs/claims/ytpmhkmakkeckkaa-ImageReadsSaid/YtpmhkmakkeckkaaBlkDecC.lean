/-
  The landed code of layer 13: Decode. What both of its functions keep, as the laws' walks take it. Over the program's own text.
-/
import Derived.Test.YtpmhkmakkeckkaaBlkDecB
namespace Go.Proofs.Ytpmhkmakkeckkaa
open Go.RowKit

set_option maxRecDepth 100000 in
theorem readR_len : ∀ (m : Nat) (l : List En) (L : List Nat), (readR m l L).length = l.length + m
  | 0, _, _ => rfl
  | m + 1, l, L => by
    rw [readR, readR_len m]
    simp
    omega
set_option maxRecDepth 100000 in
theorem readN_len (C : List Nat) : (readN C).length ≤ 64 := by
  unfold readN
  split
  · simp
  · rename_i h
    rw [readR_len]
    unfold badC at h
    simp only [List.length_nil]
    omega
set_option maxRecDepth 100000 in
theorem encN_len {l : List En} (h : MayE l) : (encN l).length ≤ 12500 := by
  have := bytesTo_len h l.length (Nat.le_refl _)
  have := h.1
  rw [encN_length]
  omega
set_option maxRecDepth 100000 in
theorem encX_len (l : List En) : (encX l).length ≤ 12500 := by
  unfold encX
  split
  · exact encN_len (by assumption)
  · simp

set_option maxRecDepth 100000 in
set_option maxHeartbeats 4000000 in
theorem lands_decode13 (W : World) (oa : Option Addr) (c N : Nat) (C : List Nat) (en : C.length = N) (ha : ReadN .u32 W oa C) (hc : N ≤ c) (hm : c ≤ maxLen) (hl : N ≤ 200000) (hx : ∀ x ∈ C, x < 4294967296) :
    Calls Try.prog 43 #[.slice oa N c] W fun e w' => ∃ v, e = .returned (.tuple #[v, .int .i64 (decN C).2]) ∧ OwnE w' W.heap.size v (decN C).1 ∧ Below W.heap.size W w' := by
  have HRd := Lib.hid (lands_read13 W oa c N C en ha hc hm hl hx)
  have HA := Lib.hid ha
  have HN := Lib.hid en
  obtain ⟨l, hl2⟩ : ∃ l, readN C = l := ⟨_, rfl⟩
  have hll := readN_len C
  rw [hl2] at HRd hll
  obtain ⟨k, hk⟩ : ∃ k, l.length = k := ⟨_, rfl⟩
  have HK := Lib.hid hk
  have hk64 : k ≤ 64 := by omega
  have HEnc := Lib.hid (fun (w : World) (o : Option Addr) (c' : Nat) (h : ReadE w o l) (h2 : k ≤ c') => lands_encode w o c' k l HK.out h h2 (by omega))
  have HD := Lib.hid (show decN C = if MayE l ∧ encN l = C then (l, 0) else ([], 11) by unfold decN; rw [hl2])
  clear ha en hx hl2 hll hk
  by_cases hM : MayE l
  · have HM := Lib.hid hM
    have he : encE l = 0 := if_pos hM
    have hX : encX l = encN l := if_pos hM
    have hel := encN_len hM
    rw [he, hX] at HEnc
    obtain ⟨E, hE⟩ : ∃ E, encN l = E := ⟨_, rfl⟩
    rw [hE] at HEnc hel HD
    obtain ⟨ne, hne⟩ : ∃ ne, E.length = ne := ⟨_, rfl⟩
    have HNe := Lib.hid hne
    rw [hne] at hel
    by_cases hEq : E = C
    · have HDD := Lib.hid (show decN C = (l, 0) by rw [HD.out, if_pos ⟨hM, hEq⟩])
      have hb : decide (E = C) = true := decide_eq_true hEq
      clear he hX hE hne hM hEq
      go_enter Try.func43, Try.ntmps43
      go_wp2_with fail
      refine HRd.out.mono ?_; rintro e w1 ⟨v, rfl, hown, hlow⟩
      obtain ⟨ol, cl, hv, hv1, _, _, hv4⟩ := hown.reads
      rw [HK.out] at hv hv1
      subst hv
      have HO := Lib.hid hown
      have HW := Lib.hid hlow
      have HRE := Lib.hid hv4
      clear hown hlow hv4
      go_wp2_with fail
      refine (HEnc.out w1 ol cl HRE.out hv1).mono ?_; rintro e w2 ⟨v2, rfl, ho2, hb2⟩
      obtain ⟨oe, ce, rfl, _, _, _, he4⟩ := ho2.reads_of ne HNe.out
      have HEq := Lib.hid (lands_equal w2 oe oa ce c ne N E C HNe.out HN.out he4 (HA.out.below (low_more HW.out hb2)) (by omega))
      rw [hb] at HEq
      have HO2 := Lib.hid (HO.out.below hb2)
      have HW2 := Lib.hid (low_more HW.out hb2)
      clear ho2 hb2 he4 hb
      go_wp2_with fail
      refine HEq.out.mono ?_; rintro e w3 ⟨rfl, hb3⟩
      have HO3 := Lib.hid (HO2.out.below hb3)
      have HW3 := Lib.hid (low_more HW2.out hb3)
      clear hb3
      go_wp2_with fail
      go_ret2
      rw [HDD.out]
      exact ⟨_, rfl, HO3.out, HW3.out⟩
    · have HDD := Lib.hid (show decN C = ([], 11) by rw [HD.out, if_neg (fun h => hEq h.2)])
      have hb : decide (E = C) = false := decide_eq_false hEq
      clear he hX hE hne hM hEq
      go_enter Try.func43, Try.ntmps43
      go_wp2_with fail
      refine HRd.out.mono ?_; rintro e w1 ⟨v, rfl, hown, hlow⟩
      obtain ⟨ol, cl, hv, hv1, _, _, hv4⟩ := hown.reads
      rw [HK.out] at hv hv1
      subst hv
      have HW := Lib.hid hlow
      have HRE := Lib.hid hv4
      clear hown hlow hv4
      go_wp2_with fail
      refine (HEnc.out w1 ol cl HRE.out hv1).mono ?_; rintro e w2 ⟨v2, rfl, ho2, hb2⟩
      obtain ⟨oe, ce, rfl, _, _, _, he4⟩ := ho2.reads_of ne HNe.out
      have HEq := Lib.hid (lands_equal w2 oe oa ce c ne N E C HNe.out HN.out he4 (HA.out.below (low_more HW.out hb2)) (by omega))
      rw [hb] at HEq
      have HW2 := Lib.hid (low_more HW.out hb2)
      clear ho2 hb2 he4 hb
      go_wp2_with fail
      refine HEq.out.mono ?_; rintro e w3 ⟨rfl, hb3⟩
      have HW3 := Lib.hid (low_more HW2.out hb3)
      clear hb3
      go_wp2_with fail
      go_ret2
      rw [HDD.out]
      exact ⟨_, rfl, OwnE.nil _ _, HW3.out⟩
  · have he : encE l = 1 := if_neg hM
    have HDD := Lib.hid (show decN C = ([], 11) by rw [HD.out, if_neg (fun h => hM h.1)])
    rw [he] at HEnc
    clear he hM
    go_enter Try.func43, Try.ntmps43
    go_wp2_with fail
    refine HRd.out.mono ?_; rintro e w1 ⟨v, rfl, hown, hlow⟩
    obtain ⟨ol, cl, hv, hv1, _, _, hv4⟩ := hown.reads
    rw [HK.out] at hv hv1
    subst hv
    have HW := Lib.hid hlow
    have HRE := Lib.hid hv4
    clear hown hlow hv4
    go_wp2_with fail
    refine (HEnc.out w1 ol cl HRE.out hv1).mono ?_; rintro e w2 ⟨v2, rfl, _, hb2⟩
    have HW2 := Lib.hid (low_more HW.out hb2)
    clear hb2
    go_wp2_with fail
    go_ret2
    rw [HDD.out]
    exact ⟨_, rfl, OwnE.nil _ _, HW2.out⟩
end Go.Proofs.Ytpmhkmakkeckkaa
