/-
  The reference of layer 13: an entry's bytes. Over the program's own text.
-/
import Derived.Test.YtpmhkmakkeckkaaBlkLandsB
import Derived.Test.YtpmhkmakkeckkaaBlkEnc
import Derived.Test.YtpmhkmakkeckkaaVlqRef
namespace Go.Proofs.Ytpmhkmakkeckkaa
open Go.RowKit

set_option maxRecDepth 100000 in
set_option maxHeartbeats 4000000 in
theorem ref_entry13 (W : World) (oa : Option Addr) (c N i : Nat) (l : List En) (en : l.length = N) (ha : ReadE W oa l) (hM : MayE l) (hi : i < N) :
    Calls Try.prog 39 #[.slice oa N c, .int .i64 (i : Int)] W fun e w' => ∃ v, e = .returned v ∧ OwnN 5 .u8 w' W.heap.size v (entB (aheadD l i) (enAt l i)) ∧ Below W.heap.size W w' := by
  have h64 := hM.1
  have hil : i < l.length := by omega
  obtain ⟨g, o, rfl, c0, p, c1, pa, pc, rfl, p1, p2, p3, p4⟩ := ha i _ (enAt_lt hil)
  have hdoc := may_doc hM hil
  have hah := may_ahead hM hil
  obtain ⟨_, hm1, hm2, hup⟩ := hM.2 i hil
  have hblen := entB_len hM hil
  obtain ⟨a, hAh⟩ : ∃ a, aheadD l i = a := ⟨_, rfl⟩
  obtain ⟨d, hd⟩ : ∃ d, (enAt l i).1 = d := ⟨_, rfl⟩
  obtain ⟨ps, hps⟩ : ∃ ps, (enAt l i).2 = ps := ⟨_, rfl⟩
  rw [hAh, hd] at hah
  rw [hd] at hdoc c0
  rw [hps] at c1 p1 p4 hm1 hm2 hup
  obtain ⟨m, hm⟩ : ∃ m, ps.length = m := ⟨_, rfl⟩
  rw [hm] at c1 p1 hm1 hm2
  obtain ⟨n1, hn1⟩ : ∃ n1 : Nat, d - a = (n1 : Int) := Int.eq_ofNat_of_zero_le (by omega)
  have hent : entB (aheadD l i) (enAt l i) = putN n1 ++ (putN m ++ posB 0 ps) := by
    unfold entB
    rw [hAh, hd, hps, hm, hn1, Int.toNat_natCast]
  rw [hent] at hblen
  have HEnt := Lib.hid hent
  obtain ⟨P1, hP1⟩ : ∃ P, putN n1 = P := ⟨_, rfl⟩
  obtain ⟨P2, hP2⟩ : ∃ P, putN m = P := ⟨_, rfl⟩
  obtain ⟨k1, hk1⟩ : ∃ k, P1.length = k := ⟨_, rfl⟩
  obtain ⟨k2, hk2⟩ : ∃ k, P2.length = k := ⟨_, rfl⟩
  have HPut1 := Lib.hid (fun w => (ref_put w n1 (by omega)))
  have HPut2 := Lib.hid (fun w => (ref_put w m (by omega)))
  rw [hP1] at HPut1 hblen HEnt
  rw [hP2] at HPut2 hblen HEnt
  simp only [List.length_append] at hblen
  have HK1 := Lib.hid hk1
  have HK2 := Lib.hid hk2
  have HL2 := Lib.hid (show P1.length + k2 ≤ 1000000 by omega)
  have HL3 := Lib.hid (show (P1 ++ P2 ++ posB 0 ps).length ≤ 100000 by simp only [List.length_append]; omega)
  have HGP := Lib.hid (goodP_first hup)
  have HM := Lib.hid hm
  have HRd := Lib.hid p4
  have s3 : IntKind.u32.wrap (n1 : Int) = (n1 : Int) := IntWalk.u32_in _ (by omega)
  have s4 : IntKind.u32.wrap (m : Int) = (m : Int) := IntWalk.u32_in _ (by omega)
  have HC1 := Lib.hid c1
  obtain ⟨r, hr⟩ : ∃ r, i % 4 = r := ⟨_, rfl⟩
  have r1 : (i : Int) % 4 = (r : Int) := by omega
  have r2 : (i : Int).tmod 4 = (r : Int) := by rw [Int.tmod_eq_emod_of_nonneg (by omega)]; exact r1
  have tail : ∀ (x y : Value), True := fun _ _ => trivial
  clear tail hent hps hd hm hup hP1 hP2 hk1 hk2 hblen p4 p2
  by_cases hr0 : r = 0
  · have ha0 : a = 0 := by rw [← hAh]; unfold aheadD; rw [if_pos (by omega)]
    have hdn : d = (n1 : Int) := by omega
    have r3 : ((r : Int) != 0) = false := by rw [hr0]; rfl
    rw [hdn] at c0
    clear ha0 hdn hAh hr hr0 hn1 hah hdoc ha hM en hil
    go_enter Try.func39, Try.ntmps39
    go_wp2_with fail
    refine (HPut1.out _).mono ?_; rintro e' w1 ⟨v1, rfl, ho1, hb1⟩
    obtain ⟨q1, z1, rfl, _⟩ := ho1.reads_of k1 HK1.out
    have HO := Lib.hid ho1
    have HW := Lib.hid hb1
    clear ho1 hb1 c0 c1
    have c1 := below_cell HC1.out HW.out
    go_wp2_with fail
    refine (HPut2.out _).mono ?_; rintro e' w3 ⟨v3, rfl, ho1, hb1⟩
    obtain ⟨q2, z2, rfl, x1, _, x2, hv1⟩ := ho1.reads_of k2 HK2.out
    have HO3 := Lib.hid (HO.out.below hb1)
    have HW3 := Lib.hid (low_more HW.out hb1)
    have HV3 := Lib.hid hv1
    clear ho1 hb1 hv1 c1
    have hwc : Below W.heap.size W w3 := HW3.out
    go_wp2_with (at_builtin; refine append_u8 (W := W) rfl (.tmp 28) (.tmp 36) rfl _ P1 P2 rfl HW3.out HO3.out q2 z2 k2 HK2.out rfl HV3.out x2 x1 HL2.out ?_; intro v4 w4 ho hg2; have HO4 := Lib.hid ho; clear ho hg2; have c1 := below_cell HC1.out HO4.out.2)
    go_loopw [6, 44] (fun bv kv wr => ∃ (k : Nat) (a2 : Int) (acc2 : List Nat), k ≤ m ∧ kv = .int .i64 (k : Int) ∧ Hid (acc2 ++ posB a2 (ps.drop k) = P1 ++ P2 ++ posB 0 ps ∧ GoodP a2 (ps.drop k) ∧ (k = 0 → a2 = 0) ∧ ∀ j, k = j + 1 → ps[j]? = some a2) ∧ OwnN 5 .u8 wr W.heap.size bv acc2 ∧ Below W.heap.size W wr) (fun _ kv _ => m - (intOf kv).toNat)
    case atStart => exact ⟨0, 0, P1 ++ P2, by omega, rfl, Lib.hid (by rw [List.drop_zero]; exact ⟨rfl, HGP.out, fun _ => rfl, fun j hj => by omega⟩), HO4.out.1, HO4.out.2⟩
    case round =>
      obtain ⟨k, a2, acc2, hk, rfl, HR2, hown, hlow⟩ := hrel
      have HO5 := Lib.hid hown
      have HW5 := Lib.hid hlow
      clear hown hlow c1
      have c1 := below_cell HC1.out HW5.out
      by_cases hkm : k < m
      · obtain ⟨x, hx⟩ : ∃ x, ps[k]? = some x := ⟨_, List.getElem?_eq_getElem (by rw [HM.out]; exact hkm)⟩
        obtain ⟨gp, op, hpa, cx⟩ := HRd.out k x hx
        subst hpa
        have cx := below_cell cx HW5.out
        have hkm1 : (k : Int) < (m : Int) := by omega
        obtain ⟨hq1, hq2, hq3, hq4⟩ := HR2.out
        rw [drop_en hx] at hq1 hq2
        simp only [posB, GoodP] at hq1 hq2
        obtain ⟨f0, f1, f2, f3⟩ := hq2
        obtain ⟨n3, hn3⟩ : ∃ n3 : Nat, x - a2 = (n3 : Int) := Int.eq_ofNat_of_zero_le (by omega)
        rw [hn3, Int.toNat_natCast] at hq1
        have hn3b : n3 ≤ 65535 := by omega
        obtain ⟨P3, hP3⟩ : ∃ P, putN n3 = P := ⟨_, rfl⟩
        obtain ⟨k3, hk3⟩ : ∃ k, P3.length = k := ⟨_, rfl⟩
        rw [hP3] at hq1
        have hlen := congrArg List.length hq1
        have hl3 := HL3.out
        rw [← hlen] at hl3
        simp only [List.length_append] at hl3
        have HL5 := Lib.hid (show acc2.length + k3 ≤ 1000000 by omega)
        have HNx := Lib.hid (show (acc2 ++ P3) ++ posB x (ps.drop (k + 1)) = P1 ++ P2 ++ posB 0 ps ∧ GoodP x (ps.drop (k + 1)) ∧ (k + 1 = 0 → x = 0) ∧ ∀ j, k + 1 = j + 1 → ps[j]? = some x from ⟨by rw [← hq1, List.append_assoc], f3, fun h => by omega, fun j hj => (show j = k by omega) ▸ hx⟩)
        have HPut3 := Lib.hid (fun w => (ref_put w n3 (by omega)))
        rw [hP3] at HPut3
        have HK3 := Lib.hid hk3
        have t3 : IntKind.u32.wrap (n3 : Int) = (n3 : Int) := IntWalk.u32_in _ (by omega)
        have t4 : IntKind.i64.wrap (n3 : Int) = (n3 : Int) := IntWalk.i64_in _ (by omega)
        by_cases hk0 : k = 0
        · subst hk0
          have ha2 := hq3 rfl
          have hxn : x = (n3 : Int) := by omega
          rw [hxn, Nat.add_zero] at cx
          clear hq1 hq3 hq4 hlen hl3 hP3 hk3 f3 hx f0 f1 f2 hn3 ha2 hxn
          go_wp2_with fail
          refine (HPut3.out _).mono ?_; rintro e' w6 ⟨v6, rfl, ho1, hb1⟩
          obtain ⟨q3, z3, rfl, g1, _, g2, hv1⟩ := ho1.reads_of k3 HK3.out
          have HO6 := Lib.hid (HO5.out.below hb1)
          have HW6 := Lib.hid (low_more HW5.out hb1)
          have HV6 := Lib.hid hv1
          clear ho1 hb1 hv1 cx c1
          go_wp2_with (at_builtin; refine append_u8 (W := W) rfl (.tmp 68) (.tmp 71) rfl _ acc2 P3 rfl HW6.out HO6.out q3 z3 k3 HK3.out rfl HV6.out g2 g1 HL5.out ?_; intro v7 w7 ho _; have HO7 := Lib.hid ho; clear ho)
          go_roundw
          case rel => exact ⟨_, x, acc2 ++ P3, by omega, by go_num, HNx, HO7.out.1, HO7.out.2⟩
          case measure => simp [intOf]; omega
        · obtain ⟨j, hj⟩ : ∃ j, k = j + 1 := ⟨k - 1, by omega⟩
          obtain ⟨gp2, op2, hpa, cj⟩ := HRd.out j a2 (hq4 j hj)
          injection hpa with hpa
          injection hpa with e1 e2
          subst e1 e2
          have cj := below_cell cj HW5.out
          have t1 : (k : Int) - 1 = (j : Int) := by omega
          have t2 : IntKind.i64.wrap ((k : Int) - 1) = (j : Int) := by rw [t1]; exact IntWalk.i64_in _ (by omega)
          have t5 : IntKind.i64.wrap (j : Int) = (j : Int) := IntWalk.i64_in _ (by omega)
          have t6 : IntKind.i64.wrap (x - a2) = (n3 : Int) := by rw [hn3]; exact IntWalk.i64_in _ (by omega)
          have hkp : (0 : Int) < (k : Int) := by omega
          have hjm : j < m := by omega
          clear hq1 hq3 hq4 hlen hl3 hP3 hk3 f3 hx f0 f1 f2 hk0 hj
          go_wp2_with fail
          refine (HPut3.out _).mono ?_; rintro e' w6 ⟨v6, rfl, ho1, hb1⟩
          obtain ⟨q3, z3, rfl, g1, _, g2, hv1⟩ := ho1.reads_of k3 HK3.out
          have HO6 := Lib.hid (HO5.out.below hb1)
          have HW6 := Lib.hid (low_more HW5.out hb1)
          have HV6 := Lib.hid hv1
          clear ho1 hb1 hv1 cx c1
          go_wp2_with (at_builtin; refine append_u8 (W := W) rfl (.tmp 68) (.tmp 71) rfl _ acc2 P3 rfl HW6.out HO6.out q3 z3 k3 HK3.out rfl HV6.out g2 g1 HL5.out ?_; intro v7 w7 ho _; have HO7 := Lib.hid ho; clear ho)
          go_roundw
          case rel => exact ⟨_, x, acc2 ++ P3, by omega, by go_num, HNx, HO7.out.1, HO7.out.2⟩
          case measure => simp [intOf]; omega
      · obtain rfl : k = m := by omega
        have HEq := Lib.hid (show acc2 = P1 ++ P2 ++ posB 0 ps by
          have := HR2.out.1
          rw [List.drop_eq_nil_of_le (by have := HM.out; omega)] at this
          simpa [posB] using this)
        clear c1
        go_wp2_with fail
        go_ret
        exact ⟨_, rfl, by rw [HEnt.out, ← List.append_assoc, ← HEq.out]; exact HO5.out, HW5.out⟩
  · obtain ⟨i1, hi1⟩ : ∃ i1, i = i1 + 1 := ⟨i - 1, by omega⟩
    have haa : (enAt l i1).1 = a := by rw [← hAh]; unfold aheadD; rw [if_neg (by omega), show i - 1 = i1 by omega]
    obtain ⟨g2, o2, hgo, cp, _⟩ := ha i1 _ (enAt_lt (by omega))
    injection hgo with hgo
    injection hgo with e1 e2
    subst e1 e2
    rw [haa] at cp
    have u1 : (i : Int) - 1 = (i1 : Int) := by omega
    have u2 : IntKind.i64.wrap ((i : Int) - 1) = (i1 : Int) := by rw [u1]; exact IntWalk.i64_in _ (by omega)
    have u3 : IntKind.i64.wrap (i1 : Int) = (i1 : Int) := IntWalk.i64_in _ (by omega)
    have s2 : IntKind.i64.wrap (d - a) = (n1 : Int) := by rw [hn1]; exact IntWalk.i64_in _ (by omega)
    have s5 : IntKind.i64.wrap (n1 : Int) = (n1 : Int) := IntWalk.i64_in _ (by omega)
    have hi1N : i1 < N := by omega
    have r3 : ((r : Int) != 0) = true := bne_iff_ne.2 (by omega)
    clear hAh hr hr0 hah hdoc ha hM en hil haa hi1
    go_enter Try.func39, Try.ntmps39
    go_wp2_with fail
    refine (HPut1.out _).mono ?_; rintro e' w1 ⟨v1, rfl, ho1, hb1⟩
    obtain ⟨q1, z1, rfl, _⟩ := ho1.reads_of k1 HK1.out
    have HO := Lib.hid ho1
    have HW := Lib.hid hb1
    clear ho1 hb1 c0 c1
    have c1 := below_cell HC1.out HW.out
    go_wp2_with fail
    refine (HPut2.out _).mono ?_; rintro e' w3 ⟨v3, rfl, ho1, hb1⟩
    obtain ⟨q2, z2, rfl, x1, _, x2, hv1⟩ := ho1.reads_of k2 HK2.out
    have HO3 := Lib.hid (HO.out.below hb1)
    have HW3 := Lib.hid (low_more HW.out hb1)
    have HV3 := Lib.hid hv1
    clear ho1 hb1 hv1 c1
    have hwc : Below W.heap.size W w3 := HW3.out
    go_wp2_with (at_builtin; refine append_u8 (W := W) rfl (.tmp 28) (.tmp 36) rfl _ P1 P2 rfl HW3.out HO3.out q2 z2 k2 HK2.out rfl HV3.out x2 x1 HL2.out ?_; intro v4 w4 ho hg2; have HO4 := Lib.hid ho; clear ho hg2; have c1 := below_cell HC1.out HO4.out.2)
    go_loopw [6, 44] (fun bv kv wr => ∃ (k : Nat) (a2 : Int) (acc2 : List Nat), k ≤ m ∧ kv = .int .i64 (k : Int) ∧ Hid (acc2 ++ posB a2 (ps.drop k) = P1 ++ P2 ++ posB 0 ps ∧ GoodP a2 (ps.drop k) ∧ (k = 0 → a2 = 0) ∧ ∀ j, k = j + 1 → ps[j]? = some a2) ∧ OwnN 5 .u8 wr W.heap.size bv acc2 ∧ Below W.heap.size W wr) (fun _ kv _ => m - (intOf kv).toNat)
    case atStart => exact ⟨0, 0, P1 ++ P2, by omega, rfl, Lib.hid (by rw [List.drop_zero]; exact ⟨rfl, HGP.out, fun _ => rfl, fun j hj => by omega⟩), HO4.out.1, HO4.out.2⟩
    case round =>
      obtain ⟨k, a2, acc2, hk, rfl, HR2, hown, hlow⟩ := hrel
      have HO5 := Lib.hid hown
      have HW5 := Lib.hid hlow
      clear hown hlow c1
      have c1 := below_cell HC1.out HW5.out
      by_cases hkm : k < m
      · obtain ⟨x, hx⟩ : ∃ x, ps[k]? = some x := ⟨_, List.getElem?_eq_getElem (by rw [HM.out]; exact hkm)⟩
        obtain ⟨gp, op, hpa, cx⟩ := HRd.out k x hx
        subst hpa
        have cx := below_cell cx HW5.out
        have hkm1 : (k : Int) < (m : Int) := by omega
        obtain ⟨hq1, hq2, hq3, hq4⟩ := HR2.out
        rw [drop_en hx] at hq1 hq2
        simp only [posB, GoodP] at hq1 hq2
        obtain ⟨f0, f1, f2, f3⟩ := hq2
        obtain ⟨n3, hn3⟩ : ∃ n3 : Nat, x - a2 = (n3 : Int) := Int.eq_ofNat_of_zero_le (by omega)
        rw [hn3, Int.toNat_natCast] at hq1
        have hn3b : n3 ≤ 65535 := by omega
        obtain ⟨P3, hP3⟩ : ∃ P, putN n3 = P := ⟨_, rfl⟩
        obtain ⟨k3, hk3⟩ : ∃ k, P3.length = k := ⟨_, rfl⟩
        rw [hP3] at hq1
        have hlen := congrArg List.length hq1
        have hl3 := HL3.out
        rw [← hlen] at hl3
        simp only [List.length_append] at hl3
        have HL5 := Lib.hid (show acc2.length + k3 ≤ 1000000 by omega)
        have HNx := Lib.hid (show (acc2 ++ P3) ++ posB x (ps.drop (k + 1)) = P1 ++ P2 ++ posB 0 ps ∧ GoodP x (ps.drop (k + 1)) ∧ (k + 1 = 0 → x = 0) ∧ ∀ j, k + 1 = j + 1 → ps[j]? = some x from ⟨by rw [← hq1, List.append_assoc], f3, fun h => by omega, fun j hj => (show j = k by omega) ▸ hx⟩)
        have HPut3 := Lib.hid (fun w => (ref_put w n3 (by omega)))
        rw [hP3] at HPut3
        have HK3 := Lib.hid hk3
        have t3 : IntKind.u32.wrap (n3 : Int) = (n3 : Int) := IntWalk.u32_in _ (by omega)
        have t4 : IntKind.i64.wrap (n3 : Int) = (n3 : Int) := IntWalk.i64_in _ (by omega)
        by_cases hk0 : k = 0
        · subst hk0
          have ha2 := hq3 rfl
          have hxn : x = (n3 : Int) := by omega
          rw [hxn, Nat.add_zero] at cx
          clear hq1 hq3 hq4 hlen hl3 hP3 hk3 f3 hx f0 f1 f2 hn3 ha2 hxn
          go_wp2_with fail
          refine (HPut3.out _).mono ?_; rintro e' w6 ⟨v6, rfl, ho1, hb1⟩
          obtain ⟨q3, z3, rfl, g1, _, g2, hv1⟩ := ho1.reads_of k3 HK3.out
          have HO6 := Lib.hid (HO5.out.below hb1)
          have HW6 := Lib.hid (low_more HW5.out hb1)
          have HV6 := Lib.hid hv1
          clear ho1 hb1 hv1 cx c1
          go_wp2_with (at_builtin; refine append_u8 (W := W) rfl (.tmp 68) (.tmp 71) rfl _ acc2 P3 rfl HW6.out HO6.out q3 z3 k3 HK3.out rfl HV6.out g2 g1 HL5.out ?_; intro v7 w7 ho _; have HO7 := Lib.hid ho; clear ho)
          go_roundw
          case rel => exact ⟨_, x, acc2 ++ P3, by omega, by go_num, HNx, HO7.out.1, HO7.out.2⟩
          case measure => simp [intOf]; omega
        · obtain ⟨j, hj⟩ : ∃ j, k = j + 1 := ⟨k - 1, by omega⟩
          obtain ⟨gp2, op2, hpa, cj⟩ := HRd.out j a2 (hq4 j hj)
          injection hpa with hpa
          injection hpa with e1 e2
          subst e1 e2
          have cj := below_cell cj HW5.out
          have t1 : (k : Int) - 1 = (j : Int) := by omega
          have t2 : IntKind.i64.wrap ((k : Int) - 1) = (j : Int) := by rw [t1]; exact IntWalk.i64_in _ (by omega)
          have t5 : IntKind.i64.wrap (j : Int) = (j : Int) := IntWalk.i64_in _ (by omega)
          have t6 : IntKind.i64.wrap (x - a2) = (n3 : Int) := by rw [hn3]; exact IntWalk.i64_in _ (by omega)
          have hkp : (0 : Int) < (k : Int) := by omega
          have hjm : j < m := by omega
          clear hq1 hq3 hq4 hlen hl3 hP3 hk3 f3 hx f0 f1 f2 hk0 hj
          go_wp2_with fail
          refine (HPut3.out _).mono ?_; rintro e' w6 ⟨v6, rfl, ho1, hb1⟩
          obtain ⟨q3, z3, rfl, g1, _, g2, hv1⟩ := ho1.reads_of k3 HK3.out
          have HO6 := Lib.hid (HO5.out.below hb1)
          have HW6 := Lib.hid (low_more HW5.out hb1)
          have HV6 := Lib.hid hv1
          clear ho1 hb1 hv1 cx c1
          go_wp2_with (at_builtin; refine append_u8 (W := W) rfl (.tmp 68) (.tmp 71) rfl _ acc2 P3 rfl HW6.out HO6.out q3 z3 k3 HK3.out rfl HV6.out g2 g1 HL5.out ?_; intro v7 w7 ho _; have HO7 := Lib.hid ho; clear ho)
          go_roundw
          case rel => exact ⟨_, x, acc2 ++ P3, by omega, by go_num, HNx, HO7.out.1, HO7.out.2⟩
          case measure => simp [intOf]; omega
      · obtain rfl : k = m := by omega
        have HEq := Lib.hid (show acc2 = P1 ++ P2 ++ posB 0 ps by
          have := HR2.out.1
          rw [List.drop_eq_nil_of_le (by have := HM.out; omega)] at this
          simpa [posB] using this)
        clear c1
        go_wp2_with fail
        go_ret
        exact ⟨_, rfl, by rw [HEnt.out, ← List.append_assoc, ← HEq.out]; exact HO5.out, HW5.out⟩
end Go.Proofs.Ytpmhkmakkeckkaa
