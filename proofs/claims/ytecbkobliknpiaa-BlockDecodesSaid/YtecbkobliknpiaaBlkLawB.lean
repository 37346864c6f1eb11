/-
  The laws of layer 13 that lay and read. Over the program's own text.
-/
import Derived.Test.YtecbkobliknpiaaBlkLawA
namespace Go.Proofs.Ytecbkobliknpiaa
open Go.RowKit

theorem dec_cases {C : List Nat} {m : List En} {er : Int} (h : decS C = (m, er)) : (m = [] ∧ er = 11) ∨ (MayE m ∧ encN m = C ∧ er = 0) := by
  unfold decS at h
  split at h
  · cases h; exact .inl ⟨rfl, rfl⟩
  split at h
  · cases h; exact .inl ⟨rfl, rfl⟩
  split at h
  · rename_i hh
    cases h
    exact .inr ⟨hh.1, hh.2, rfl⟩
  · cases h; exact .inl ⟨rfl, rfl⟩
theorem may_small {l : List En} (h : MayE l) : l.length ≤ 64 ∧ ∀ e ∈ l, e.2.length ≤ 256 := by
  refine ⟨h.1, fun e he => ?_⟩
  obtain ⟨i, hi, rfl⟩ := List.mem_iff_getElem.1 he
  have := (h.2 i hi).2.2.1
  rwa [enAt_some (List.getElem?_eq_getElem hi)] at this
theorem dec_small {C : List Nat} {m : List En} {er : Int} (h : decS C = (m, er)) : m.length ≤ 64 ∧ ∀ e ∈ m, e.2.length ≤ 256 := by
  rcases dec_cases h with ⟨rfl, _⟩ | ⟨h, _⟩
  · simp
  · exact may_small h
theorem encN_lt {l : List En} (h : MayE l) : ∀ x ∈ encN l, x < 4294967296 := by
  intro x hx
  unfold encN at hx
  simp only [List.mem_cons, List.mem_append] at hx
  rcases hx with rfl | hx | hx
  · have := h.1; omega
  · obtain ⟨k, hk, rfl⟩ := List.mem_map.1 hx
    have hk := List.mem_range.1 hk
    exact (headAt_eq h (by omega)).2.1
  · obtain ⟨j, _, rfl⟩ := List.mem_map.1 hx
    exact cellAt_lt (bytesTo_byte h _ (Nat.le_refl _)) j

set_option maxRecDepth 100000 in
set_option maxHeartbeats 2000000 in
theorem encodes13 (W : World) (oa : Option Addr) (c N : Nat) (l : List En) (en : l.length = N) (ha : ReadE W oa l) (hc : N ≤ c) (hr : ∀ e ∈ l, e.2.length ≤ reachBytes) : Calls Try.prog 3 #[.slice oa N c] W fun e w' => e = .returned (.bool true) ∧ Below W.heap.size W w' := by
  have HG := Lib.hid (great13 W oa c N l en ha hr)
  have HF := Lib.hid fixed13
  have HA := Lib.hid ha
  have HN := Lib.hid en
  cases hg : greatB l with
  | true =>
    rw [hg] at HG
    clear ha hr en hg
    go_enter Try.func3, Try.ntmps3
    go_wp2_with fail
    refine HG.out.mono ?_; rintro e w1 ⟨rfl, hb⟩
    have HB := Lib.hid hb; clear hb
    go_wp2_with fail
    refine (HF.out _).mono ?_; rintro e w9 ⟨rfl, hb⟩
    have HB := Lib.hid (low_more HB.out hb); clear hb
    go_wp2_with fail
    go_ret
    exact ⟨rfl, HB.out⟩
  | false =>
    obtain ⟨h1, h2⟩ := great_no hg
    rw [hg] at HG
    obtain ⟨er, hE⟩ : ∃ er, encE l = er := ⟨_, rfl⟩
    obtain ⟨X, hX⟩ : ∃ X, encX l = X := ⟨_, rfl⟩
    obtain ⟨n, hn⟩ : ∃ n, X.length = n := ⟨_, rfl⟩
    have hnb : n ≤ 12500 := by rw [← hn, ← hX]; exact encX_len l
    have A1 := Lib.hid (enc_of en (by omega) hE hX hn)
    have A2 := Lib.hid (ref_enc_of en (by omega) hE hX hn)
    have A3 := Lib.hid (fun (w : World) (hw : ReadE w oa l) => ref_copy13 w oa c N l en hw (by omega) (fun e he => by have := h2 e he; omega))
    have HP := Lib.hid h2
    have HNx := Lib.hid hn
    have hNb : N ≤ 100 := by omega
    have hee : (er == er) = true := by simp
    clear ha hr en hg h1 h2 hE hX hn
    go_enter Try.func3, Try.ntmps3
    go_wp2_with fail
    refine HG.out.mono ?_; rintro e w1 ⟨rfl, hb⟩
    have HB := Lib.hid hb; clear hb
    go_wp2_with fail
    refine (A3.out _ (HA.out.below HB.out)).mono ?_; rintro e w2 ⟨ob, rfl, hre, hb⟩
    have HO := Lib.hid hre
    have HB := Lib.hid (low_more HB.out hb); clear hre hb
    go_wp2_with fail
    refine (A1.out _ ob N HO.out (Nat.le_refl _)).mono ?_; rintro e w3 ⟨oc, d, rfl, _, _, hre, hb⟩
    have HO := Lib.hid (HO.out.below hb)
    have HR3 := Lib.hid hre
    have HB := Lib.hid (low_more HB.out hb); clear hre hb
    go_wp2_with fail
    refine (A2.out _ oa c (HA.out.below HB.out) hc).mono ?_; rintro e w4 ⟨od, d4, rfl, _, _, hre, hb⟩
    have HO := Lib.hid (HO.out.below hb)
    have HR3 := Lib.hid (HR3.out.below hb)
    have HR4 := Lib.hid hre
    have HB := Lib.hid (low_more HB.out hb); clear hre hb
    go_wp2_with fail
    refine (HF.out _).mono ?_; rintro e w5 ⟨rfl, hb⟩
    have HO := Lib.hid (HO.out.below hb)
    have HR3 := Lib.hid (HR3.out.below hb)
    have HR4 := Lib.hid (HR4.out.below hb)
    have HB := Lib.hid (low_more HB.out hb); clear hb
    go_wp2_with fail
    refine (same32_eq _ oc od d d4 n X HNx.out HR3.out HR4.out (by omega)).mono ?_; rintro e w6 ⟨rfl, hb⟩
    have HO := Lib.hid (HO.out.below hb)
    have HB := Lib.hid (low_more HB.out hb); clear hb
    go_wp2_with fail
    refine (same13_eq _ ob oa N c N l HN.out HO.out (HA.out.below HB.out) (by omega) (fun e he => by have := HP.out e he; omega)).mono ?_; rintro e w7 ⟨rfl, hb⟩
    have HB := Lib.hid (low_more HB.out hb); clear hb
    go_wp2_with fail
    go_ret
    exact ⟨rfl, HB.out⟩

set_option maxRecDepth 100000 in
set_option maxHeartbeats 2000000 in
theorem decodes13 (W : World) (oa : Option Addr) (c N : Nat) (C : List Nat) (en : C.length = N) (ha : ReadN .u32 W oa C) (hc : N ≤ c) (hm : c ≤ maxLen) (hx : ∀ x ∈ C, x < 4294967296) : Calls Try.prog 4 #[.slice oa N c] W fun e w' => e = .returned (.bool true) ∧ Below W.heap.size W w' := by
  have HF := Lib.hid fixed13
  have HA := Lib.hid ha
  have HN := Lib.hid en
  by_cases h3 : 3000 < N
  · have h3i : (3000 : Int) < (N : Int) := by omega
    have HB := Lib.hid (Below.refl W.heap.size W)
    clear ha hx en h3
    go_enter Try.func4, Try.ntmps4
    go_wp2_with fail
    refine (HF.out _).mono ?_; rintro e w9 ⟨rfl, hb⟩
    have HB := Lib.hid (low_more HB.out hb); clear hb
    go_wp2_with fail
    go_ret
    exact ⟨rfl, HB.out⟩
  · have h3i : ¬ (3000 : Int) < (N : Int) := by omega
    obtain ⟨⟨m, er⟩, hD⟩ : ∃ r, decS C = r := ⟨_, rfl⟩
    obtain ⟨n, hn⟩ : ∃ n, m.length = n := ⟨_, rfl⟩
    obtain ⟨h1, h2⟩ := dec_small hD
    have hnb : n ≤ 64 := by omega
    have A1 := Lib.hid (dec_of en (by omega) hx hD hn)
    have A2 := Lib.hid (ref_dec_of en (by omega) hx hD hn)
    have HP := Lib.hid h2
    have HNm := Lib.hid hn
    have hNM : N ≤ maxLen := by omega
    have HNM := Lib.hid hNM
    have HM := Lib.hid hm
    have hee : (er == er) = true := by simp
    clear ha hx en h1 h2 hD hn hNM hm
    go_enter Try.func4, Try.ntmps4
    go_wp2_with fail
    refine (copy32_at W oa c N C HN.out (by omega) HA.out).mono ?_; rintro e w1 ⟨rfl, hre, hb⟩
    have HO := Lib.hid hre
    have HB := Lib.hid hb; clear hre hb
    generalize (some (⟨W.heap.size, 0, none⟩ : Addr) : Option Addr) = ob at HO ⊢
    go_wp2_with fail
    refine (A1.out _ ob N HO.out (Nat.le_refl _) HNM.out).mono ?_; rintro e w3 ⟨oc, d, rfl, _, _, hre, hb⟩
    have HO := Lib.hid (HO.out.below hb)
    have HR3 := Lib.hid hre
    have HB := Lib.hid (low_more HB.out hb); clear hre hb
    go_wp2_with fail
    refine (A2.out _ oa c (HA.out.below HB.out) hc HM.out).mono ?_; rintro e w4 ⟨od, d4, rfl, _, _, hre, hb⟩
    have HO := Lib.hid (HO.out.below hb)
    have HR3 := Lib.hid (HR3.out.below hb)
    have HR4 := Lib.hid hre
    have HB := Lib.hid (low_more HB.out hb); clear hre hb
    go_wp2_with fail
    refine (HF.out _).mono ?_; rintro e w5 ⟨rfl, hb⟩
    have HO := Lib.hid (HO.out.below hb)
    have HR3 := Lib.hid (HR3.out.below hb)
    have HR4 := Lib.hid (HR4.out.below hb)
    have HB := Lib.hid (low_more HB.out hb); clear hb
    go_wp2_with fail
    refine (same13_eq _ oc od d d4 n m HNm.out HR3.out HR4.out (by omega) (fun e he => by have := HP.out e he; omega)).mono ?_; rintro e w6 ⟨rfl, hb⟩
    have HO := Lib.hid (HO.out.below hb)
    have HB := Lib.hid (low_more HB.out hb); clear hb
    go_wp2_with fail
    refine (same32_eq _ ob oa N c N C HN.out HO.out (HA.out.below HB.out) (by omega)).mono ?_; rintro e w7 ⟨rfl, hb⟩
    have HB := Lib.hid (low_more HB.out hb); clear hb
    go_wp2_with fail
    go_ret
    exact ⟨rfl, HB.out⟩

set_option maxRecDepth 100000 in
set_option maxHeartbeats 2000000 in
theorem back13 (W : World) (oa : Option Addr) (c N : Nat) (l : List En) (en : l.length = N) (ha : ReadE W oa l) (hc : N ≤ c) (hr : ∀ e ∈ l, e.2.length ≤ reachBytes) (ob : Option Addr) (d M : Nat) (C : List Nat) (en2 : C.length = M) (ha2 : ReadN .u32 W ob C) (hd : M ≤ d) (hm : d ≤ maxLen) (hx : ∀ x ∈ C, x < 4294967296) : Calls Try.prog 5 #[.slice oa N c, .slice ob M d] W fun e w' => e = .returned (.bool true) ∧ Below W.heap.size W w' := by
  have HG := Lib.hid (great13 W oa c N l en ha hr)
  have HF := Lib.hid fixed13
  have HA := Lib.hid ha
  have HN := Lib.hid en
  have HA2 := Lib.hid ha2
  have HM2 := Lib.hid en2
  have HM := Lib.hid hm
  cases hg : greatB l with
  | true =>
    rw [hg] at HG
    clear ha hr en hg ha2 en2 hm hx
    go_enter Try.func5, Try.ntmps5
    go_wp2_with fail
    refine HG.out.mono ?_; rintro e w1 ⟨rfl, hb⟩
    have HB := Lib.hid hb; clear hb
    go_wp2_with fail
    refine (HF.out _).mono ?_; rintro e w9 ⟨rfl, hb⟩
    have HB := Lib.hid (low_more HB.out hb); clear hb
    go_wp2_with fail
    go_ret
    exact ⟨rfl, HB.out⟩
  | false =>
    obtain ⟨h1, h2⟩ := great_no hg
    rw [hg] at HG
    by_cases h3 : 3000 < M
    · have h3i : (3000 : Int) < (M : Int) := by omega
      clear ha hr en hg ha2 en2 hm hx h1 h2 h3
      go_enter Try.func5, Try.ntmps5
      go_wp2_with fail
      refine HG.out.mono ?_; rintro e w1 ⟨rfl, hb⟩
      have HB := Lib.hid hb; clear hb
      go_wp2_with fail
      refine (HF.out _).mono ?_; rintro e w9 ⟨rfl, hb⟩
      have HB := Lib.hid (low_more HB.out hb); clear hb
      go_wp2_with fail
      go_ret
      exact ⟨rfl, HB.out⟩
    have h3i : ¬ (3000 : Int) < (M : Int) := by omega
    have HD := Lib.hid (show (∃ _ : DecAt 16 M 0 C [] 11, True) ∨ ∃ n3 m3, DecAt 16 M n3 C m3 0 ∧ EncAt 11 n3 M m3 C 0 ∧ m3.length = n3 ∧ True from by
      obtain ⟨⟨m, er⟩, hD⟩ : ∃ r, decS C = r := ⟨_, rfl⟩
      rcases dec_cases hD with ⟨rfl, rfl⟩ | ⟨hM, hC, rfl⟩
      · exact .inl ⟨dec_of en2 (by omega) hx hD rfl, trivial⟩
      · have := hM.1
        exact .inr ⟨m.length, m, dec_of en2 (by omega) hx hD rfl, enc_of rfl (by omega) (if_pos hM) ((if_pos hM).trans hC) en2, rfl, trivial⟩)
    have hNb : N ≤ 100 := by omega
    have hMb : M ≤ 3000 := by omega
    have HP := Lib.hid h2
    by_cases hM : MayE l
    · obtain ⟨n, hn⟩ : ∃ n, (encN l).length = n := ⟨_, rfl⟩
      have hnb : n ≤ 12500 := by rw [← hn]; exact encN_len hM
      have A1 := Lib.hid (enc_of en (by omega) (if_pos hM) (if_pos hM) hn)
      have A2 := Lib.hid (dec_of hn (by omega) (encN_lt hM) (dec_enc hM) en)
      clear ha hr en hg ha2 en2 hm hx h1 h2 h3 hM hn
      go_enter Try.func5, Try.ntmps5
      go_wp2_with fail
      refine HG.out.mono ?_; rintro e w1 ⟨rfl, hb⟩
      have HB := Lib.hid hb; clear hb
      go_wp2_with fail
      refine (A1.out _ oa c (HA.out.below HB.out) hc).mono ?_; rintro e w2 ⟨oc, d2, rfl, hd2, hm2, hre, hb⟩
      have HR2 := Lib.hid hre
      have HM2c := Lib.hid hm2
      have HB := Lib.hid (low_more HB.out hb); clear hre hb hm2
      go_wp2_with fail
      refine (A2.out _ oc d2 HR2.out hd2 HM2c.out).mono ?_; rintro e w3 ⟨od, d3, rfl, _, _, hre, hb⟩
      have HR3 := Lib.hid hre
      have HB := Lib.hid (low_more HB.out hb); clear hre hb hd2
      go_wp2_with fail
      refine (same13_eq _ od oa d3 c N l HN.out HR3.out (HA.out.below HB.out) (by omega) (fun e he => by have := HP.out e he; omega)).mono ?_; rintro e w4 ⟨rfl, hb⟩
      have HB := Lib.hid (low_more HB.out hb); clear hb
      rcases HD.out with ⟨C3, hC3⟩ | ⟨n3, m3, hd3⟩
      · go_wp2_with fail
        refine (C3 _ ob d (HA2.out.below HB.out) hd HM.out).mono ?_; rintro e w5 ⟨oe, d5, rfl, _, _, _, hb⟩
        have HB := Lib.hid (low_more HB.out hb); clear hb C3 hC3
        go_wp2_with fail
        refine (HF.out _).mono ?_; rintro e w9 ⟨rfl, hb⟩
        have HB := Lib.hid (low_more HB.out hb); clear hb
        go_wp2_with fail
        go_ret
        exact ⟨rfl, HB.out⟩
      · obtain ⟨hd3, he3, hn3, hs3⟩ := hd3
        have HE3 := Lib.hid he3
        have HN3 := Lib.hid hn3
        clear hs3 he3 hn3
        go_wp2_with fail
        refine (hd3 _ ob d (HA2.out.below HB.out) hd HM.out).mono ?_; rintro e w5 ⟨oe, d5, rfl, hd5, _, hre, hb⟩
        have HR5 := Lib.hid hre
        have HB := Lib.hid (low_more HB.out hb); clear hre hb hd3
        go_wp2_with fail
        refine (HE3.out _ oe d5 HR5.out hd5).mono ?_; rintro e w6 ⟨of, d6, rfl, _, _, hre, hb⟩
        have HR6 := Lib.hid hre
        have HB := Lib.hid (low_more HB.out hb); clear hre hb hd5
        go_wp2_with fail
        refine (same32_eq _ of ob d6 d M C HM2.out HR6.out (HA2.out.below HB.out) (by omega)).mono ?_; rintro e w7 ⟨rfl, hb⟩
        have HB := Lib.hid (low_more HB.out hb); clear hb
        go_wp2_with fail
        refine (HF.out _).mono ?_; rintro e w9 ⟨rfl, hb⟩
        have HB := Lib.hid (low_more HB.out hb); clear hb
        go_wp2_with fail
        go_ret
        exact ⟨rfl, HB.out⟩
    · have A1 := Lib.hid (enc_of en (by omega) (if_neg hM) (if_neg hM) rfl)
      clear ha hr en hg ha2 en2 hm hx h1 h2 h3 hM
      go_enter Try.func5, Try.ntmps5
      go_wp2_with fail
      refine HG.out.mono ?_; rintro e w1 ⟨rfl, hb⟩
      have HB := Lib.hid hb; clear hb
      go_wp2_with fail
      refine (A1.out _ oa c (HA.out.below HB.out) hc).mono ?_; rintro e w2 ⟨oc, d2, rfl, _, _, _, hb⟩
      have HB := Lib.hid (low_more HB.out hb); clear hb
      rcases HD.out with ⟨C3, hC3⟩ | ⟨n3, m3, hd3⟩
      · go_wp2_with fail
        refine (C3 _ ob d (HA2.out.below HB.out) hd HM.out).mono ?_; rintro e w5 ⟨oe, d5, rfl, _, _, _, hb⟩
        have HB := Lib.hid (low_more HB.out hb); clear hb C3 hC3
        go_wp2_with fail
        refine (HF.out _).mono ?_; rintro e w9 ⟨rfl, hb⟩
        have HB := Lib.hid (low_more HB.out hb); clear hb
        go_wp2_with fail
        go_ret
        exact ⟨rfl, HB.out⟩
      · obtain ⟨hd3, he3, hn3, hs3⟩ := hd3
        have HE3 := Lib.hid he3
        have HN3 := Lib.hid hn3
        clear hs3 he3 hn3
        go_wp2_with fail
        refine (hd3 _ ob d (HA2.out.below HB.out) hd HM.out).mono ?_; rintro e w5 ⟨oe, d5, rfl, hd5, _, hre, hb⟩
        have HR5 := Lib.hid hre
        have HB := Lib.hid (low_more HB.out hb); clear hre hb hd3
        go_wp2_with fail
        refine (HE3.out _ oe d5 HR5.out hd5).mono ?_; rintro e w6 ⟨of, d6, rfl, _, _, hre, hb⟩
        have HR6 := Lib.hid hre
        have HB := Lib.hid (low_more HB.out hb); clear hre hb hd5
        go_wp2_with fail
        refine (same32_eq _ of ob d6 d M C HM2.out HR6.out (HA2.out.below HB.out) (by omega)).mono ?_; rintro e w7 ⟨rfl, hb⟩
        have HB := Lib.hid (low_more HB.out hb); clear hb
        go_wp2_with fail
        refine (HF.out _).mono ?_; rintro e w9 ⟨rfl, hb⟩
        have HB := Lib.hid (low_more HB.out hb); clear hb
        go_wp2_with fail
        go_ret
        exact ⟨rfl, HB.out⟩

end Go.Proofs.Ytecbkobliknpiaa
