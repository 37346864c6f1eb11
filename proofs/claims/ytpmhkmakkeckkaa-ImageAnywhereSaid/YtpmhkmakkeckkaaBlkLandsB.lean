/-
  The landed code of layer 13: a block's bytes. Over the program's own text.
-/
import Derived.Test.YtpmhkmakkeckkaaBlkLandsA
import Derived.Test.YtpmhkmakkeckkaaSame8
namespace Go.Proofs.Ytpmhkmakkeckkaa
open Go.RowKit

def GoodP : Int → List Int → Prop
  | _, [] => True
  | a, p :: l => 0 ≤ a ∧ a ≤ p ∧ p ≤ 65535 ∧ GoodP p l
def GoodB : Int → List En → Prop
  | _, [] => True
  | a, e :: r => 0 ≤ a ∧ a ≤ e.1 ∧ e.1 ≤ 65535 ∧ e.2.length ≤ 256 ∧ GoodP 0 e.2 ∧ GoodB e.1 r
set_option maxRecDepth 100000 in
theorem grown_block {e t : TypeId} {w w' : World} {base size n : Nat} {v : Value} {xs : List Value} (h : w.ownsRow base e size v n xs) (hg : w.grownBy w' v.ownBlock) {b : Nat} {c : Array Value} (hb : w.heap[b]? = some (.cells c t (0, 0))) (ht : t ≠ e) : w'.heap[b]? = some (.cells c t (0, 0)) := by
  rw [hg.block b (lt_of_heap hb) (fun he => ?_)]
  · exact hb
  · obtain ⟨_, ⟨rfl, _⟩ | ⟨g, cap, cur, rfl, _, hg2, _⟩⟩ := h
    · simp [Value.ownBlock] at he
    · simp only [Value.ownBlock, Option.some.injEq] at he
      subst he
      rw [hb] at hg2
      injection hg2 with q
      injection q with _ q
      exact ht q
set_option maxRecDepth 100000 in
theorem block_below {w w' : World} {b : Nat} {c : Array Value} {t : TypeId} (h : w.heap[b]? = some (.cells c t (0, 0))) (hb : Below w.heap.size w w') : w'.heap[b]? = some (.cells c t (0, 0)) := (hb.block b (lt_of_heap h)).trans h
set_option maxRecDepth 100000 in
theorem drop_en {α : Type} {l : List α} {i : Nat} {x : α} (h : l[i]? = some x) : l.drop i = x :: l.drop (i + 1) := by
  obtain ⟨h1, h2⟩ := List.getElem?_eq_some_iff.1 h
  rw [List.drop_eq_getElem_cons h1, h2]

set_option maxRecDepth 100000 in
set_option maxHeartbeats 4000000 in
theorem lands_put13 (W : World) (oa : Option Addr) (c N : Nat) (r : List En) (en : r.length = N) (ha : ReadE W oa r) (hl : N ≤ 100000) (hg : GoodB 0 r) (ht : (blkB 0 r).length ≤ 100000) :
    Calls Try.prog 37 #[.slice oa N c] W fun e w' => ∃ v, e = .returned v ∧ OwnN 5 .u8 w' W.heap.size v (blkB 0 r) ∧ Below W.heap.size W w' := by
  have HA := Lib.hid ha
  have HN := Lib.hid en
  have HG := Lib.hid hg
  have HT := Lib.hid ht
  clear ha en hg ht
  go_enter Try.func37, Try.ntmps37
  go_wp2_with fail
  go_loopw [3, 4, 12] (fun bv dv iv wr => ∃ (i : Nat) (a : Int) (acc : List Nat), i ≤ N ∧ iv = .int .i64 (i : Int) ∧ dv = .int .i64 a ∧ Hid (acc ++ blkB a (r.drop i) = blkB 0 r ∧ GoodB a (r.drop i)) ∧ OwnN 5 .u8 wr W.heap.size bv acc ∧ Below W.heap.size W wr) (fun _ _ iv _ => N - (intOf iv).toNat)
  case atStart => exact ⟨0, 0, [], by omega, rfl, rfl, Lib.hid (by rw [List.drop_zero]; exact ⟨rfl, HG.out⟩), OwnN.nil _ _ _ _, Below.refl _ _⟩
  case round =>
    obtain ⟨i, a, acc, hi, rfl, rfl, HR, hown, hlow⟩ := hrel
    have HO := Lib.hid hown
    have HW := Lib.hid hlow
    clear hown hlow
    by_cases hlt : i < N
    · obtain ⟨e, he⟩ : ∃ e, r[i]? = some e := ⟨_, List.getElem?_eq_getElem (by rw [HN.out]; exact hlt)⟩
      obtain ⟨g, o, rfl, c0, p, c1, pa, pc, rfl, p1, p2, p3, p4⟩ := (HA.out) i e he
      have c0 := below_cell c0 HW.out
      have c1 := below_cell c1 HW.out
      obtain ⟨d, ps⟩ := e
      simp only at c0 c1 p1 p4
      obtain ⟨m, hm⟩ : ∃ m, ps.length = m := ⟨_, rfl⟩
      rw [hm] at c1 p1
      have hr1 := HR.out.1
      have hr2 := HR.out.2
      rw [drop_en he] at hr1 hr2
      simp only [blkB, GoodB, entB] at hr1 hr2
      obtain ⟨ha0, had, hd, hm2, hgp, hgn⟩ := hr2
      rw [hm] at hm2 hr1
      obtain ⟨n1, hn1⟩ : ∃ n1 : Nat, d - a = (n1 : Int) := Int.eq_ofNat_of_zero_le (by omega)
      have hn1b : n1 ≤ 65535 := by omega
      rw [hn1, Int.toNat_natCast] at hr1
      obtain ⟨P1, hP1⟩ : ∃ P, putN n1 = P := ⟨_, rfl⟩
      obtain ⟨P2, hP2⟩ : ∃ P, putN m = P := ⟨_, rfl⟩
      obtain ⟨k1, hk1⟩ : ∃ k, P1.length = k := ⟨_, rfl⟩
      obtain ⟨k2, hk2⟩ : ∃ k, P2.length = k := ⟨_, rfl⟩
      rw [hP1, hP2] at hr1
      have hlen := congrArg List.length hr1
      simp only [List.length_append] at hlen
      have htot := HT.out
      have HL1 := Lib.hid (show acc.length + k1 ≤ 1000000 by omega)
      have HL2 := Lib.hid (show (acc ++ P1).length + k2 ≤ 1000000 by rw [List.length_append]; omega)
      have HL3 := Lib.hid (show (acc ++ P1 ++ P2 ++ posB 0 ps).length ≤ 100000 by simp only [List.length_append]; omega)
      have HNext := Lib.hid (show (acc ++ P1 ++ P2 ++ posB 0 ps) ++ blkB d (r.drop (i + 1)) = blkB 0 r ∧ GoodB d (r.drop (i + 1)) from ⟨by rw [← hr1]; simp only [List.append_assoc], hgn⟩)
      have HPut1 := Lib.hid (fun w => (lands_put w n1 (by omega)))
      have HPut2 := Lib.hid (fun w => (lands_put w m (by omega)))
      rw [hP1] at HPut1
      rw [hP2] at HPut2
      have HK1 := Lib.hid hk1
      have HK2 := Lib.hid hk2
      have HGP := Lib.hid hgp
      have HPm := Lib.hid hm
      have HRd := Lib.hid p4
      have s2 : IntKind.i64.wrap (d - a) = (n1 : Int) := by rw [hn1]; exact IntWalk.i64_in _ (by omega)
      have s3 : IntKind.u32.wrap (n1 : Int) = (n1 : Int) := IntWalk.u32_in _ (by omega)
      have s4 : IntKind.u32.wrap (m : Int) = (m : Int) := IntWalk.u32_in _ (by omega)
      clear hr1 hlen htot hP1 hP2 hk1 hk2 hgp hgn hm p4 he
      go_wp2_with fail
      have HE := Lib.hid (show (wr.alloc (.cells #[.int .i64 d, .slice pa m pc] 52)).heap[wr.heap.size]? = some (.cells #[.int .i64 d, .slice pa m pc] 52 (0, 0)) from heap_alloc_new wr _)
      have HO := Lib.hid (HO.out.below ((Below.refl _ _).alloc (Nat.le_refl _) (.cells #[.int .i64 d, .slice pa m pc] 52)))
      have HW := Lib.hid (low_new (o := .cells #[.int .i64 d, .slice pa m pc] 52) HW.out)
      obtain ⟨be, hbe⟩ : ∃ be, be = wr.heap.size := ⟨_, rfl⟩
      rw [← hbe] at HE ⊢
      generalize wr.alloc (.cells #[.int .i64 d, .slice pa m pc] 52) = wq at HE HO HW ⊢
      clear c0 c1 hbe
      refine (HPut1.out _).mono ?_; rintro e' w1 ⟨v1, rfl, ho1, hb1⟩
      obtain ⟨q1, z1, rfl, y1, _, y2, hv1⟩ := ho1.reads_of k1 HK1.out
      have HE := Lib.hid (block_below HE.out hb1)
      have HO := Lib.hid (HO.out.below hb1)
      have HW := Lib.hid (low_more HW.out hb1)
      have HV1 := Lib.hid hv1
      clear ho1 hb1 hv1
      have e0 := cell_at HE.out 0
      have e1 := cell_at HE.out 1
      go_wp2_with (at_builtin; refine append_u8 (W := W) rfl (.tmp 16) (.tmp 22) rfl _ acc P1 rfl HW.out HO.out q1 z1 k1 HK1.out rfl HV1.out y2 y1 HL1.out ?_; intro v2 w2 ho hg2; have HO2 := Lib.hid ho; have HE2 := Lib.hid (grown_block HO.out hg2 HE.out (by decide)); clear ho hg2; have e0 := cell_at HE2.out 0; have e1 := cell_at HE2.out 1)
      refine (HPut2.out _).mono ?_; rintro e' w3 ⟨v3, rfl, ho1, hb1⟩
      obtain ⟨q2, z2, rfl, x1, _, x2, hv1⟩ := ho1.reads_of k2 HK2.out
      have HE3 := Lib.hid (block_below HE2.out hb1)
      have HO3 := Lib.hid (HO2.out.1.below hb1)
      have HW3 := Lib.hid (low_more HO2.out.2 hb1)
      have HV3 := Lib.hid hv1
      clear ho1 hb1 hv1 e0 e1
      have e0 := cell_at HE3.out 0
      have e1 := cell_at HE3.out 1
      go_wp2_with (at_builtin; refine append_u8 (W := W) rfl (.tmp 24) (.tmp 29) rfl _ (acc ++ P1) P2 rfl HW3.out HO3.out q2 z2 k2 HK2.out rfl HV3.out x2 x1 HL2.out ?_; intro v4 w4 ho hg2; have HO4 := Lib.hid ho; have HE4 := Lib.hid (grown_block HO3.out hg2 HE3.out (by decide)); clear ho hg2; have e0 := cell_at HE4.out 0; have e1 := cell_at HE4.out 1)
      go_loopw [3, 7, 36] (fun bv pv kv wr => ∃ (k : Nat) (a2 : Int) (acc2 : List Nat), k ≤ m ∧ kv = .int .i64 (k : Int) ∧ pv = .int .i64 a2 ∧ Hid (acc2 ++ posB a2 (ps.drop k) = acc ++ P1 ++ P2 ++ posB 0 ps ∧ GoodP a2 (ps.drop k)) ∧ OwnN 5 .u8 wr W.heap.size bv acc2 ∧ Below W.heap.size W wr) (fun _ _ kv _ => m - (intOf kv).toNat)
      case atStart => exact ⟨0, 0, acc ++ P1 ++ P2, by omega, rfl, rfl, Lib.hid (by rw [List.drop_zero]; exact ⟨rfl, HGP.out⟩), HO4.out.1, HO4.out.2⟩
      case round =>
        obtain ⟨k, a2, acc2, hk, rfl, rfl, HR2, hown, hlow⟩ := hrel
        have HO5 := Lib.hid hown
        have HW5 := Lib.hid hlow
        clear hown hlow
        by_cases hkm : k < m
        · obtain ⟨x, hx⟩ : ∃ x, ps[k]? = some x := ⟨_, List.getElem?_eq_getElem (by rw [HPm.out]; exact hkm)⟩
          obtain ⟨gp, op, rfl, cx⟩ := HRd.out k x hx
          have cx := below_cell cx HW5.out
          have hq1 := HR2.out.1
          have hq2 := HR2.out.2
          rw [drop_en hx] at hq1 hq2
          simp only [posB, GoodP] at hq1 hq2
          obtain ⟨f0, f1, f2, f3⟩ := hq2
          obtain ⟨n3, hn3⟩ : ∃ n3 : Nat, x - a2 = (n3 : Int) := Int.eq_ofNat_of_zero_le (by omega)
          rw [hn3, Int.toNat_natCast] at hq1
          have hn3b : n3 ≤ 65535 := by omega
          obtain ⟨P3, hP3⟩ : ∃ P, putN n3 = P := ⟨_, rfl⟩
          obtain ⟨k3, hk3⟩ : ∃ k, P3.length = k := ⟨_, rfl⟩
          rw [hP3] at hq1
          have hlen := congrArg List.length hq1
          have hl3 := HL3.out
          rw [← hlen] at hl3
          simp only [List.length_append] at hl3
          have HL5 := Lib.hid (show acc2.length + k3 ≤ 1000000 by omega)
          have HNx := Lib.hid (show (acc2 ++ P3) ++ posB x (ps.drop (k + 1)) = acc ++ P1 ++ P2 ++ posB 0 ps ∧ GoodP x (ps.drop (k + 1)) from ⟨by rw [← hq1, List.append_assoc], f3⟩)
          have HPut3 := Lib.hid (fun w => (lands_put w n3 (by omega)))
          rw [hP3] at HPut3
          have HK3 := Lib.hid hk3
          have t2 : IntKind.i64.wrap (x - a2) = (n3 : Int) := by rw [hn3]; exact IntWalk.i64_in _ (by omega)
          have t3 : IntKind.u32.wrap (n3 : Int) = (n3 : Int) := IntWalk.u32_in _ (by omega)
          clear hq1 hlen hl3 hP3 hk3 f3 hx e0 e1
          go_wp2_with fail
          refine (HPut3.out _).mono ?_; rintro e' w6 ⟨v6, rfl, ho1, hb1⟩
          obtain ⟨q3, z3, rfl, g1, _, g2, hv1⟩ := ho1.reads_of k3 HK3.out
          have HO6 := Lib.hid (HO5.out.below hb1)
          have HW6 := Lib.hid (low_more HW5.out hb1)
          have HV6 := Lib.hid hv1
          clear ho1 hb1 hv1 cx
          go_wp2_with (at_builtin; refine append_u8 (W := W) rfl (.tmp 40) (.tmp 45) rfl _ acc2 P3 rfl HW6.out HO6.out q3 z3 k3 HK3.out rfl HV6.out g2 g1 HL5.out ?_; intro v7 w7 ho _; have HO7 := Lib.hid ho; clear ho)
          go_roundw
          case rel => exact ⟨k + 1, x, acc2 ++ P3, by omega, by go_num, rfl, HNx, HO7.out.1, HO7.out.2⟩
          case measure => simp [intOf]; omega
        · obtain rfl : k = m := by omega
          have HEq := Lib.hid (show acc2 = acc ++ P1 ++ P2 ++ posB 0 ps by
            have := HR2.out.1
            rw [List.drop_eq_nil_of_le (by have := HPm.out; omega)] at this
            simpa [posB] using this)
          have HO5 := Lib.hid (HEq.out ▸ HO5.out)
          clear e0 e1
          go_wp2_with fail
          go_roundw
          case rel => exact ⟨i + 1, d, acc ++ P1 ++ P2 ++ posB 0 ps, by omega, by go_num, rfl, HNext, HO5.out, HW5.out⟩
          case measure => simp [intOf]; omega
    · obtain rfl : i = N := by omega
      have HE := Lib.hid (show acc = blkB 0 r by
        have := HR.out.1
        rw [List.drop_eq_nil_of_le (by have := HN.out; omega)] at this
        simpa [blkB] using this)
      go_wp2_with fail
      go_ret
      rw [← HE.out]
      exact ⟨_, rfl, HO.out, HW.out⟩
end Go.Proofs.Ytpmhkmakkeckkaa
