/-
  The reference of layer 18: how often a phrase is in a document; Phrase; are two rows the same. Over the program's own text.
-/
import Derived.Test.YtaaeooimalglaaaMatR
namespace Go.Proofs.Ytaaeooimalglaaa
open Go.RowKit

set_option maxRecDepth 100000 in
set_option maxHeartbeats 4000000 in
theorem ref_times (W : World) (ta la : Option Addr) (tc lc m : Nat) (T : List Tk) (L : List (List En)) (d : Int) (hT : ReadT W ta T) (hm : m = T.length) (hL : ReadEs W la L) (hl : T.length = L.length) (hl6 : ∀ l ∈ L, l.length ≤ 1000000) (hok : PlacesOk T (L.map (placesN · d))) :
    Calls Try.prog 23 #[.slice ta m tc, .slice la m lc, .int .i64 d] W fun e w' => e = .returned (.int .i64 ((timesN T L d : Nat) : Int)) ∧ Below W.heap.size W w' := by
  obtain ⟨hlen, hpos, hfew, hts, hps⟩ := hok
  obtain ⟨l0, hl0⟩ : ∃ l, L[0]? = some l := ⟨_, List.getElem?_eq_getElem (by omega)⟩
  obtain ⟨Ps, hPs⟩ : ∃ Ps, Ps = L.map (placesN · d) := ⟨_, rfl⟩
  have hP0 : Ps[0]? = some (placesN l0 d) := by rw [hPs, List.getElem?_map, hl0]; rfl
  have htm : timesN T L d = timesP T Ps := by rw [hPs]; rfl
  rw [htm]
  rw [← hPs] at hlen hps
  obtain ⟨t0, ht0⟩ : ∃ t, T[0]? = some t := ⟨_, List.getElem?_eq_getElem (by omega)⟩
  have hp0 := hps _ (List.mem_of_getElem? hP0)
  have hfirst : firstT T = t0.2.2 := by unfold firstT; cases T with | nil => simp at ht0 | cons t T => simp at ht0; subst ht0; rfl
  have hhead : Ps.headD [] = placesN l0 d := by cases Ps with | nil => simp at hP0 | cons P Ps => simp at hP0; rw [hP0]; rfl
  obtain ⟨g0, o0, rfl, p0, hcp0, hre⟩ := hL 0 l0 hl0
  obtain ⟨u0, ⟨qa, qc, rfl, hql, hqm, hqn, hrz⟩, hcall⟩ := ref_places W p0 l0 d hre (hl6 _ (List.mem_of_getElem? hl0))
  obtain ⟨P0, hP0d⟩ : ∃ P0, P0 = placesN l0 d := ⟨_, rfl⟩
  rw [← hP0d] at hP0 hp0 hhead hrz hql hcall
  obtain ⟨gt, ot, rfl, _, _, hct0⟩ := hT 0 t0 ht0
  obtain ⟨n, hn⟩ : ∃ n, n = P0.length := ⟨_, rfl⟩
  have hcount : ∀ k, k = n → (((P0.take k).countP fun q => standB (firstT T) q T Ps : Nat) : Int) = ((timesP T Ps : Nat) : Int) := by
    intro k hk
    rw [hk, hn, List.take_length]
    unfold timesP
    rw [hhead]
  have hs0 := hts t0 (List.mem_of_getElem? ht0)
  have HCnt := Lib.hid hcount
  have HT := Lib.hid hT
  have HL := Lib.hid hL
  have HL6 := Lib.hid hl6
  have HZ := Lib.hid hrz
  have HTs := Lib.hid hts
  have HPs := Lib.hid hps
  have HPd := Lib.hid hPs
  have HP0 := Lib.hid (show n = P0.length ∧ (∀ x ∈ P0, 0 ≤ x ∧ x ≤ 65535) from ⟨hn, hp0.2.2⟩)
  have HM := Lib.hid (show m = T.length ∧ m = L.length from ⟨hm, by omega⟩)
  have HC0 := Lib.hid (hcall W (Below.refl _ _))
  have hn6 : n ≤ 1000000 := by have := hp0.2.1; omega
  have hm6 : m ≤ 1000000 := by omega
  have hm0 : (0 : Int) < (m : Int) := by omega
  rw [Nat.zero_mul, Nat.add_zero] at hct0
  rw [Nat.add_zero] at hcp0
  rw [← hn] at HC0
  rw [hfirst] at HCnt
  have HF := Lib.hid hct0
  clear hcount hT hL hrz hts hps hn hm hlen hpos hfew hhead hfirst ht0 hP0 hre hp0 hql hqm hqn hcall hl hl6 hl0 hPs htm hP0d hct0
  go_enter Try.func23, Try.ntmps23
  go_wp2_with fail
  refine HC0.out.mono ?_
  rintro e w1 ⟨rfl, rfl⟩
  clear HC0 hcp0
  go_wp2_with fail
  go_loopg [7, 19] n (fun g s7 s19 wr => ∃ i : Nat, i + g = n ∧ s19 = .int .i64 (i : Int) ∧ s7 = .int .i64 (((P0.take i).countP fun q => standB t0.2.2 q T Ps : Nat) : Int) ∧ Hid (Below w1.heap.size w1 wr))
  case atStart => exact ⟨0, by omega, rfl, by simp, Lib.hid (Below.refl _ _)⟩
  case round =>
    obtain ⟨i, hig, rfl, rfl, HB⟩ := hrel
    have hcl : (P0.take i).countP (fun q => standB t0.2.2 q T Ps) ≤ i := Nat.le_trans List.countP_le_length (by rw [List.length_take]; omega)
    cases gk with
    | zero =>
      have hin : n = i := by omega
      have hc := HCnt.out i hin.symm
      subst hin
      have HC := Lib.hid hc
      clear hc hcl
      go_wp2_with fail
      go_ret
      exact ⟨by rw [← HC.out]; rfl, HB.out⟩
    | succ g =>
      have hlt : i < n := by omega
      obtain ⟨q, hq⟩ : ∃ q, P0[i]? = some q := ⟨_, List.getElem?_eq_getElem (by rw [← HP0.out.1]; exact hlt)⟩
      obtain ⟨gq, oq, rfl, hcq⟩ := HZ.out i q hq
      have hq1 := HP0.out.2 q (List.mem_of_getElem? hq)
      have HCt := Lib.hid (count_take (fun q => standB t0.2.2 q T Ps) hq)
      obtain ⟨cn, hcn⟩ : ∃ cn, cn = (P0.take i).countP (fun q => standB t0.2.2 q T Ps) := ⟨_, rfl⟩
      rw [← hcn] at HCt hcl ⊢
      have HQ := Lib.hid hcq
      clear hcq hq hcn
      have hlti : (i : Int) < (n : Int) := by omega
      go_wp2_with fail
      go_loopg [10, 24] m (fun g2 s10 s24 wy => ∃ (j : Nat) (b : Bool), j + g2 = m ∧ s24 = .int .i64 (j : Int) ∧ s10 = .bool b ∧ Hid (b = true ↔ standTo t0.2.2 q T Ps j) ∧ Hid (Below w1.heap.size w1 wy))
      case atStart => exact ⟨0, true, by omega, rfl, rfl, Lib.hid ⟨fun _ => standTo_zero _ _ _ _, fun _ => rfl⟩, HB⟩
      case round =>
        clear HB
        obtain ⟨j, b, hjg, rfl, rfl, HS, HB⟩ := hrel
        cases gk with
        | zero =>
          have hjm : m = j := by omega
          subst hjm
          have hst := stand_iff t0.2.2 q T Ps
          rw [← HM.out.1] at hst
          cases b with
          | true =>
            have HC2 := Lib.hid (show (P0.take (i + 1)).countP (fun q => standB t0.2.2 q T Ps) = cn + 1 by rw [HCt.out, hst.2 (HS.out.1 rfl)]; rfl)
            clear hst HCt
            go_wp2_with fail
            go_roundg g
            case measure => omega
            case rel => exact ⟨i + 1, by omega, by go_num, by rw [HC2.out]; go_num, HB⟩
          | false =>
            have HC2 := Lib.hid (show (P0.take (i + 1)).countP (fun q => standB t0.2.2 q T Ps) = cn by
              rw [HCt.out]
              have : standB t0.2.2 q T Ps = false := by
                rw [Bool.eq_false_iff]
                intro h
                have := HS.out.2 (hst.1 h)
                cases this
              rw [this]; rfl)
            clear hst HCt
            go_wp2_with fail
            go_roundg g
            case measure => omega
            case rel => exact ⟨i + 1, by omega, by go_num, by rw [HC2.out], HB⟩
        | succ g2 =>
          have hltj : j < m := by omega
          obtain ⟨t, ht⟩ : ∃ t, T[j]? = some t := ⟨_, List.getElem?_eq_getElem (by rw [← HM.out.1]; exact hltj)⟩
          obtain ⟨l, hl⟩ : ∃ l, L[j]? = some l := ⟨_, List.getElem?_eq_getElem (by rw [← HM.out.2]; exact hltj)⟩
          obtain ⟨gx, ox, hx, k0, k1, k2⟩ := HT.out j t ht
          injection hx with hx
          injection hx with hx hx'
          subst hx hx'
          obtain ⟨gy, oy, hy, pj, hpj, hre⟩ := HL.out j l hl
          injection hy with hy
          injection hy with hy hy'
          subst hy hy'
          obtain ⟨P, hPe⟩ : ∃ P, P = placesN l d := ⟨_, rfl⟩
          have hPj : Ps[j]? = some P := by rw [HPd.out, List.getElem?_map, hl, hPe]; rfl
          obtain ⟨u, hu, hcu⟩ := ref_places w1 pj l d hre (HL6.out l (List.mem_of_getElem? hl))
          rw [← hPe] at hu
          have hpp := HPs.out P (List.mem_of_getElem? hPj)
          have ht5 := HTs.out t (List.mem_of_getElem? ht)
          have c2 := below_cell k2 HB.out
          have c3 := below_cell hpj HB.out
          have c5 := below_cell HF.out HB.out
          have cq := below_cell HQ.out HB.out
          have HPl := Lib.hid hcu
          have HHas := Lib.hid (fun (wx : World) (hb : Below w1.heap.size w1 wx) => ref_has wx u P (q - t0.2.2 + t.2.2) (hu.below hb) hpp.2.1)
          have HYes := Lib.hid (show q - t0.2.2 + t.2.2 ∈ P → (b = true ↔ standTo t0.2.2 q T Ps (j + 1)) from fun h => by
            rw [HS.out]
            exact ⟨fun h2 => standTo_succ h2 ht hPj h, fun h2 k hk => h2 k (by omega)⟩)
          have HNo := Lib.hid (show q - t0.2.2 + t.2.2 ∉ P → (false = true ↔ standTo t0.2.2 q T Ps (j + 1)) from fun h => ⟨fun h2 => (by cases h2), fun h2 => absurd (h2 j (by omega) t P ht hPj) h⟩)
          have hltji : (j : Int) < (m : Int) := by omega
          have hw1 : IntKind.i64.wrap (q - t0.2.2) = q - t0.2.2 := IntWalk.i64_in _ (by omega)
          have hw2 : IntKind.i64.wrap (q - t0.2.2 + t.2.2) = q - t0.2.2 + t.2.2 := IntWalk.i64_in _ (by omega)
          have HW2 := Lib.hid (fun m1 => below_drawn HB.out m1)
          clear k0 k1 k2 hpj hre hpp ht hPj hcu hu hPe hl HQ
          by_cases hmem : q - t0.2.2 + t.2.2 ∈ P
          · rw [decide_eq_true hmem] at HHas
            have HYs := Lib.hid (HYes.out hmem)
            clear HNo HYes
            go_upto_region 10 with fail
            go_quiet ((first
              | (go_at_call 29; refine Calls.quiet_of_same (HPl.out _ (HW2.out _)))
              | (go_at_call 30; refine Calls.quiet_of_same (HHas.out _ (HW2.out _)))))
            rename Nat => m1
            have HB3 := Lib.hid (HW2.out m1)
            clear c2 c3 c5 cq
            go_wp2_with fail
            go_roundg g2
            case measure => omega
            case rel => exact ⟨j + 1, b, by omega, by go_num, rfl, HYs, HB3⟩
          · rw [decide_eq_false hmem] at HHas
            have HNs := Lib.hid (HNo.out hmem)
            clear HNo HYes
            go_upto_region 10 with fail
            go_quiet ((first
              | (go_at_call 29; refine Calls.quiet_of_same (HPl.out _ (HW2.out _)))
              | (go_at_call 30; refine Calls.quiet_of_same (HHas.out _ (HW2.out _)))))
            rename Nat => m1
            have HB3 := Lib.hid (HW2.out m1)
            clear c2 c3 c5 cq
            go_wp2_with fail
            go_roundg g2
            case measure => omega
            case rel => exact ⟨j + 1, false, by omega, by go_num, rfl, HNs, HB3⟩
theorem any_false {T : List Tk} (h : anyBeyond T = false) {i : Nat} {t : Tk} (ht : T[i]? = some t) : ¬ beyondT t := fun hb => by rw [any_at ht hb] at h; cases h
set_option maxRecDepth 100000 in
set_option maxHeartbeats 8000000 in
theorem ref_phrase (W : World) (ta la : Option Addr) (tc lc m k : Nat) (T : List Tk) (L : List (List En)) (hT : ReadT W ta T) (hm : m = T.length) (hL : ReadEs W la L) (hk : k = L.length) (h6 : m ≤ 1000000) (_h7 : k ≤ 1000000) (hMay : ∀ l ∈ L, MayE l) :
    Calls Try.prog 12 #[.slice ta m tc, .slice la k lc] W fun e w' => ∃ v, e = .returned v ∧ OwnFo w' W.heap.size v (phraseN T L) ∧ Below W.heap.size W w' := by
  have HLit := Lib.hid (show OwnFo (W.alloc (.cells #[] 44)) W.heap.size (.slice (some ⟨W.heap.size, 0, none⟩) 0 0) [] from World.ownsRow_lit (base := W.heap.size) (e := 44) (size := 2) W #[] 0 (Nat.le_refl _) (by decide) (by simp))
  have HB0 := Lib.hid (below_one (w := W) (A := .cells #[] 44))
  by_cases h0 : m = 0
  · have HN := Lib.hid (phrase_bad (T := T) (L := L) (.inl (List.eq_nil_of_length_eq_zero (by omega))))
    subst h0
    clear hT hL hm hk hMay
    go_enter Try.func12, Try.ntmps12
    go_wp2_with fail
    go_ret
    exact ⟨_, rfl, by rw [HN.out]; exact HLit.out, HB0.out⟩
  have h0i : ¬ (m : Int) = 0 := by omega
  by_cases hmk : k ≠ m
  · have HN := Lib.hid (phrase_bad (T := T) (L := L) (.inr (.inl (by rw [← hm, ← hk]; exact Ne.symm hmk))))
    have hki : ¬ (m : Int) = (k : Int) := by omega
    have hkn : ¬ m = k := by omega
    have hb1 : ((m : Int) == 0) = false := beq_eq_false_iff_ne.2 h0i
    have hb2 : ((m : Int) != (k : Int)) = true := by rw [bne, beq_eq_false_iff_ne.2 hki]; rfl
    clear hT hL hm hk hMay
    go_enter Try.func12, Try.ntmps12
    go_wp2_with fail
    go_ret
    exact ⟨_, rfl, by rw [HN.out]; exact HLit.out, HB0.out⟩
  obtain rfl : k = m := Classical.byContradiction hmk
  have hb1 : ((k : Int) == 0) = false := beq_eq_false_iff_ne.2 h0i
  have hb2 : ((k : Int) != (k : Int)) = false := by simp
  have HT := Lib.hid hT
  have HL := Lib.hid hL
  have HMay := Lib.hid hMay
  have HK := Lib.hid (And.intro hm hk)
  clear hT hL hMay hm hk hmk
  go_enter Try.func12, Try.ntmps12
  go_wp2_with fail
  obtain ⟨w1, hw1⟩ : ∃ w1, w1 = W.alloc (.cells #[] 44) := ⟨_, rfl⟩
  rw [show W.alloc (.cells #[] 44) = w1 from hw1.symm]
  rw [← hw1] at HLit HB0
  have hk0 : (0 : Int) < (k : Int) := by omega
  have HBs := Lib.hid (show W.heap.size ≤ w1.heap.size by rw [hw1]; simp)
  clear hw1
  obtain ⟨b0, hb0⟩ : ∃ b0, b0 = W.heap.size := ⟨_, rfl⟩
  rw [← hb0] at HLit ⊢
  have HBz := Lib.hid hb0
  clear hb0
  go_loopg [23] k (fun g s23 wr => ∃ i : Nat, i + g = k ∧ s23 = .int .i64 (i : Int) ∧ wr = w1 ∧ Hid (∀ (j : Nat) (t : Tk), j < i → T[j]? = some t → ¬ beyondT t))
  case atStart => exact ⟨0, by omega, rfl, rfl, Lib.hid fun j t hj => absurd hj (by omega)⟩
  case round =>
    obtain ⟨i, hig, rfl, rfl, HS⟩ := hrel
    cases gk with
    | succ g =>
      have hlt : i < k := by omega
      obtain ⟨t, ht⟩ : ∃ t, T[i]? = some t := ⟨_, List.getElem?_eq_getElem (by rw [← HK.out.1]; exact hlt)⟩
      obtain ⟨gt, ot, rfl, _, _, k2⟩ := HT.out i t ht
      have c2 := below_cell k2 HB0.out
      have hlti : (i : Int) < (k : Int) := by omega
      have HTi := Lib.hid ht
      clear k2 ht
      obtain ⟨p, hp⟩ : ∃ p, p = t.2.2 := ⟨_, rfl⟩
      rw [← hp] at c2
      by_cases hbe : p < 0 ∨ 65535 < p
      · have HN := Lib.hid (phrase_bad (T := T) (L := L) (.inr (.inr ⟨t, List.mem_of_getElem? HTi.out, by unfold beyondT; rw [← hp]; exact hbe⟩)))
        clear hp
        by_cases h1 : p < 0
        · go_wp2_with fail
          go_ret
          exact ⟨_, rfl, by rw [HN.out, ← HBz.out]; exact HLit.out, HB0.out⟩
        · have h2 : 65535 < p := by omega
          go_wp2_with fail
          go_ret
          exact ⟨_, rfl, by rw [HN.out, ← HBz.out]; exact HLit.out, HB0.out⟩
      · have HS2 := Lib.hid (show ∀ (j : Nat) (t : Tk), j < i + 1 → T[j]? = some t → ¬ beyondT t from fun j z hj hz => by
          by_cases e : j = i
          · subst e; rw [HTi.out] at hz; injection hz with hz; subst hz; unfold beyondT; rw [← hp]; exact hbe
          · exact HS.out j z (by omega) hz)
        have h1 : ¬ p < 0 := by omega
        have h2 : ¬ 65535 < p := by omega
        clear hp hbe
        go_wp2_with fail
        go_roundg g
        case measure => omega
        case rel => exact ⟨i + 1, by omega, by go_num, rfl, HS2⟩
    | zero =>
      have hin : k = i := by omega
      subst hin
      have hB : anyBeyond T = false := any_none fun j t hj => HS.out j t (by rw [HK.out.1]; exact (List.getElem?_eq_some_iff.1 hj).1) hj
      have HGood := Lib.hid (phrase_good (good_of (L := L) (by rw [← HK.out.1]; omega) (by rw [← HK.out.1, HK.out.2]) hB))
      obtain ⟨l0, hl0⟩ : ∃ l0, L[0]? = some l0 := ⟨_, List.getElem?_eq_getElem (by rw [← HK.out.2]; omega)⟩
      have hhd : L.headD [] = l0 := by cases L with | nil => simp at hl0 | cons a L => simp at hl0; subst hl0; rfl
      rw [hhd] at HGood
      obtain ⟨g0, o0, rfl, p0, hp0, ea, ec, rfl, hea1, hea2, _, hre⟩ := HL.out 0 l0 hl0
      have hmay0 := HMay.out l0 (List.mem_of_getElem? hl0)
      obtain ⟨n, hn⟩ : ∃ n, n = l0.length := ⟨_, rfl⟩
      have hn64 : n ≤ 64 := by have := hmay0.1; omega
      have HE0 := Lib.hid hre
      have HNl := Lib.hid hn
      have HTm := Lib.hid (show ∀ (d : Int) (wx : World), Below W.heap.size W wx → Calls Try.prog 23 #[.slice ta k tc, .slice (some ⟨g0, o0, none⟩) k lc, .int .i64 d] wx fun e w' => e = .returned (.int .i64 ((timesN T L d : Nat) : Int)) ∧ Below wx.heap.size wx w' from fun d wx hb =>
        ref_times wx ta (some ⟨g0, o0, none⟩) tc lc k T L d (HT.out.below hb) HK.out.1 (ReadEs.below HL.out hb) (by rw [← HK.out.1, HK.out.2]) (fun l hl => by have := (HMay.out l hl).1; omega) (places_ok (by rw [← HK.out.1, HK.out.2]) (by rw [← HK.out.1]; omega) (by rw [← HK.out.1]; omega) hB HMay.out d))
      rw [Nat.add_zero] at hp0
      rw [← hn] at hp0 hea1
      have HP0 := Lib.hid hp0
      have c0 := below_cell hp0 HB0.out
      obtain ⟨i0, hi0, hz0, hz1, hz2⟩ := info_parts info_fo
      have HI := Lib.hid (And.intro hi0 (And.intro hz0 (And.intro hz1 hz2)))
      have HSt := Lib.hid (show OwnFo wr b0 (.slice (some ⟨b0, 0, none⟩) 0 0) (phraseF T L (l0.take 0)) from HLit.out)
      clear hi0 hz0 hz1 hz2 hB hl0 hhd hre hmay0 hn hp0 hea1 hea2
      go_wp2_with fail
      clear c0
      go_loopg [5, 46] n (fun gg s5 s46 wy => ∃ (i : Nat) (v5 : Value), i + gg = n ∧ s46 = .int .i64 (i : Int) ∧ v5 = s5 ∧ Hid (OwnFo wy b0 v5 (phraseF T L (l0.take i)) ∧ Below W.heap.size W wy))
      case atStart => exact ⟨0, _, by omega, rfl, rfl, Lib.hid ⟨HSt.out, HB0.out⟩⟩
      case round =>
        obtain ⟨i, v5, hig, rfl, rfl, HO⟩ := hrel
        cases gk with
        | zero =>
          have hin : n = i := by omega
          subst hin
          have HFin := Lib.hid (show phraseN T L = phraseF T L (l0.take n) by rw [HGood.out, List.take_of_length_le (by rw [← HNl.out]; exact Nat.le_refl _)])
          go_wp2_with fail
          go_ret
          exact ⟨_, rfl, by rw [HFin.out, ← HBz.out]; exact HO.out.1, HO.out.2⟩
        | succ gg =>
          have hlt : i < n := by omega
          obtain ⟨e, he⟩ : ∃ e, l0[i]? = some e := ⟨_, List.getElem?_eq_getElem (by rw [← HNl.out]; exact hlt)⟩
          obtain ⟨ge, oe, hge, k0, _⟩ := HE0.out i e he
          subst hge
          have c1 := below_cell HP0.out HO.out.2
          have c2 := below_cell k0 HO.out.2
          have hlti : (i : Int) < (n : Int) := by omega
          obtain ⟨d, hd⟩ : ∃ d, d = e.1 := ⟨_, rfl⟩
          rw [← hd] at c2
          have HD := Lib.hid (And.intro he hd)
          have HTd := Lib.hid (HTm.out d)
          clear he hd k0
          go_wp2_with fail
          refine (HTd.out _ HO.out.2).mono ?_
          rintro e5 w4 ⟨rfl, hb4⟩
          have HO4 := Lib.hid (show OwnFo w4 b0 v5 (phraseF T L (l0.take i)) ∧ Below W.heap.size W w4 from ⟨owned_below HO.out.1 hb4, low_more HO.out.2 hb4⟩)
          have d1 := below_cell c1 hb4
          have d2 := below_cell c2 hb4
          clear hb4 c1 c2 HO HTd
          by_cases hz : timesN T L d = 0
          · have HOne := Lib.hid (show phraseF T L (l0.take (i + 1)) = phraseF T L (l0.take i) by
              rw [phraseF_take HD.out.1]
              unfold oneF
              rw [← HD.out.2, hz]
              simp)
            rw [hz]
            clear hz d1 d2
            go_wp2_with fail
            go_roundg gg
            case measure => omega
            case rel => exact ⟨i + 1, v5, by omega, by go_num, rfl, Lib.hid ⟨by rw [HOne.out]; exact HO4.out.1, HO4.out.2⟩⟩
          · obtain ⟨tn, htn⟩ : ∃ tn, tn = timesN T L d := ⟨_, rfl⟩
            rw [← htn] at hz ⊢
            have HOne := Lib.hid (show phraseF T L (l0.take (i + 1)) = phraseF T L (l0.take i) ++ [(d, (tn : Int))] by
              rw [phraseF_take HD.out.1]
              unfold oneF
              rw [← HD.out.2, ← htn, if_pos (by omega)])
            have htp : (0 : Int) < (tn : Int) := by omega
            have hmany : (phraseF T L (l0.take i)).length ≤ 64 := phrase_many (by rw [← HNl.out]; exact hn64)
            clear hz htn
            go_wp2_with (at_builtin; refine wpList_append_own _ rfl (.tmp 61) (.tmp 71) 27 rfl b0 44 i0 _ 2 16 Try.underlying27 HI.out.1 HI.out.2.1 HI.out.2.2.1 HI.out.2.2.2 rfl (by decide) _ (phraseF T L (l0.take i)).length (fosC (phraseF T L (l0.take i))) rfl (World.ownsRow.alloc HO4.out.1 _) ⟨_, 0, none⟩ 1 1 [.int .i64 d, .int .i64 (tn : Int)] rfl rfl two_vals (by simp [Value.oneCell']) (by unfold maxLen; omega) (by omega) (by have := HO4.out.2.size; have := HBz.out; simp; omega) ?_; intro v' w8 ho hg _; have HP8 := Lib.hid (OwnFo.more (W := W) (x := (d, (tn : Int))) (by have := HO4.out.2.size; have := HBz.out; omega) (HO4.out.2.mono (by have := HBz.out; omega)) HO4.out.1 ho hg); clear ho hg)
            go_roundg gg
            case measure => omega
            case rel => exact ⟨i + 1, v', by omega, by go_num, rfl, Lib.hid ⟨by rw [HOne.out]; exact HP8.out.1, by rw [← HBz.out]; exact HP8.out.2⟩⟩
theorem eq_found (a b c d : Int) (w : World) : (Op.equalIn 10000 44 (.agg #[.int .i64 a, .int .i64 b]) (.agg #[.int .i64 c, .int .i64 d])).run Try.prog w = .ok (a == c && b == d) w := by
  have u3 := Try.underlying3
  have a3 := Try.isAgg3
  have z3 := Try.sizeOf3
  have hS : Try.prog.underlying 44 = some (.struct (Try.prog.fieldsOf 44)) := by kernel_rfl
  rw [show (10000 : Nat) = 9999 + 1 from rfl, run_equalIn_agg w 9999 44 _ _ hS (by kernel_rfl)]
  simp only [Program.fieldsOf, Try.underlying44]
  cases h1 : (a == c)
  · go_simp
  · go_simp
    by_cases hp : b = d <;> simp [hp]
set_option maxRecDepth 100000 in
set_option maxHeartbeats 4000000 in
/-- The same row twice. -/
theorem same_found (w : World) (u v : Value) (l : List Fo) (hu : RdFo w u l) (hv : RdFo w v l) (h6 : l.length ≤ 1000000) :
    Calls Try.prog 10 #[u, v] w fun e w' => e = .returned (.bool true) ∧ Below w.heap.size w w' := by
  obtain ⟨ua, uc, rfl, _, _, _, hur⟩ := hu
  obtain ⟨va, vc, rfl, _, _, _, hvr⟩ := hv
  obtain ⟨n, hn⟩ : ∃ n, n = l.length := ⟨_, rfl⟩
  have HU := Lib.hid hur
  have HV := Lib.hid hvr
  have HN := Lib.hid hn
  rw [← hn]
  rw [← hn] at h6
  clear hur hvr hn
  go_enter Try.func10, Try.ntmps10
  go_wp2_with fail
  go_loopg [13] n (fun g s13 wr => ∃ i : Nat, i + g = n ∧ s13 = .int .i64 (i : Int) ∧ Hid (Below w.heap.size w wr))
  case atStart => exact ⟨0, by omega, rfl, Lib.hid (Below.refl _ _)⟩
  case round =>
    obtain ⟨i, hig, rfl, HB⟩ := hrel
    cases gk with
    | zero =>
      go_wp2_with fail
      go_ret
      exact ⟨rfl, HB.out⟩
    | succ g =>
      have hlt : i < n := by omega
      obtain ⟨x, hx⟩ : ∃ x, l[i]? = some x := ⟨_, List.getElem?_eq_getElem (by rw [← HN.out]; exact hlt)⟩
      obtain ⟨gu, ou, rfl, u0, u1⟩ := HU.out i x hx
      obtain ⟨gv, ov, rfl, v0, v1⟩ := HV.out i x hx
      have c0 := below_cell u0 HB.out
      have c1 := below_cell u1 HB.out
      have d0 := below_cell v0 HB.out
      have d1 := below_cell v1 HB.out
      have hlti : (i : Int) < (n : Int) := by omega
      have hq := fun w => eq_found x.1 x.2 x.1 x.2 w
      rw [show (x.1 == x.1 && x.2 == x.2) = true by simp] at hq
      have HW2 := Lib.hid (fun m1 => below_drawn HB.out m1)
      obtain ⟨a, b⟩ := x
      clear u0 u1 v0 v1 hx
      go_upto_region 6 with fail
      go_quiet (fail)
      rename Nat => m1
      have HB3 := Lib.hid (HW2.out m1)
      clear c0 c1 d0 d1
      go_wp2_with fail
      go_roundg g
      case measure => omega
      case rel => exact ⟨i + 1, by omega, by go_num, HB3⟩
end Go.Proofs.Ytaaeooimalglaaa
