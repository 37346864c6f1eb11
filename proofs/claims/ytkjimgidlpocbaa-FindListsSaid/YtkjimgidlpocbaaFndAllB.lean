/-
  The reference of layer 13: may a list be. Over the program's own text.
  The reference of layer 13: an entry's bytes. Over the program's own text.
  The reference of layer 13: Encode. Over the program's own text.
  The reference of layer 13: Decode. Over the program's own text.
  A store into a row of one's own. Over any program's text.
  The reference of layer 13: a list copied. Over the program's own text.
  The reference of layer 13: are two lists the same. Over the program's own text.
  The reference of layer 1: a copy of a row of numbers. Over the program's own text.
  Layer 13's laws: the contracts as the walks take them; the law's own bound and example. Over the program's own text.
  The reference of layer 14: which text stands ahead; rows, and lists, that are the same. Over the program's own text.
-/
import Derived.Test.YtkjimgidlpocbaaFndAllA
import Derived.StillTailTactics
import Derived.BigQuiet
import Derived.Test.YtkjimgidlpocbaaNums
import Derived.Laws.OwnMore
import Derived.Test.YtkjimgidlpocbaaEnts
import Derived.Test.YtkjimgidlpocbaaLists
import Derived.Laws.StructEq
namespace Go.Proofs.Ytkjimgidlpocbaa
open Go.RowKit

structure EntAt (w : World) (be : Nat) (d : Int) (pa : Option Addr) (m pc : Nat) : Prop where
  out : w.heap[be]? = some (.cells #[.int .i64 d, .slice pa m pc] 51 (0, 0))

set_option maxRecDepth 100000 in
set_option maxHeartbeats 16000000 in
theorem ref_may13 (W : World) (oa : Option Addr) (c N : Nat) (l : List En) (en : l.length = N) (ha : ReadE W oa l) (hl : N ≤ 1000000) :
    Calls Try.prog 54 #[.slice oa N c] W fun e w' => e = .returned (.bool (mayB l)) ∧ Below W.heap.size W w' := by
  by_cases h64 : 64 < N
  · have HB := Lib.hid (show mayB l = false from mayB_false fun h => by have := h.1; omega)
    have h64i : (64 : Int) < (N : Int) := by omega
    clear ha en
    go_enter Try.func54, Try.ntmps54
    go_wp2_with fail
    go_ret
    exact ⟨by rw [HB.out]; rfl, Below.refl _ _⟩
  have h64i : ¬ (64 : Int) < (N : Int) := by omega
  have HA := Lib.hid ha
  have HN := Lib.hid en
  clear ha en
  go_enter Try.func54, Try.ntmps54
  go_wp2_with fail
  go_loopw [11] (fun iv wr => ∃ i : Nat, i ≤ N ∧ iv = .int .i64 (i : Int) ∧ Below W.heap.size W wr ∧ Hid (∀ j, j < i → okE l j)) (fun iv _ => N - (intOf iv).toNat)
  case atStart => exact ⟨0, by omega, rfl, Below.refl _ _, Lib.hid fun j hj => absurd hj (by omega)⟩
  case round =>
    obtain ⟨i, hi, rfl, hlow, HR⟩ := hrel
    have HW := Lib.hid hlow
    clear hlow
    by_cases hlt : i < N
    · skip
      obtain ⟨e, he⟩ : ∃ e, l[i]? = some e := ⟨_, List.getElem?_eq_getElem (by rw [HN.out]; exact hlt)⟩
      obtain ⟨g, o, hoa, c0, p, c1, pa, pc, rfl, p1, p2, p3, p4⟩ := HA.out i e he
      subst hoa
      obtain ⟨d, ps⟩ := e
      simp only at c0 c1 p1 p4
      have hpl : (enAt l i).2 = ps := by rw [enAt_some he]
      have hdl : (l.map (·.1)).getD i 0 = d := by rw [doc_map, enAt_some he]
      obtain ⟨m, hm⟩ : ∃ m, ps.length = m := ⟨_, rfl⟩
      rw [hm] at c1 p1
      have HE := Lib.hid hpl
      have HDl := Lib.hid hdl
      have HM := Lib.hid hm
      have HP := Lib.hid p4
      have c0 := below_cell c0 HW.out
      have c1 := below_cell c1 HW.out
      have notok : ¬ okE l i → mayB l = false := fun h => mayB_false fun hM => h (hM.2 i (by rw [HN.out]; exact hlt))
      have HNot := Lib.hid notok
      have hlt1 : (i : Int) < (N : Int) := by omega
      have hi64 : i ≤ 64 := by omega
      clear he hpl hdl hm p4 notok
      go_wp2_with fail
      have HWa := Lib.hid (show Below W.heap.size W (wr.alloc (.cells #[.int .i64 d, .slice pa m pc] 51)) from low_new HW.out)
      have HEa := Lib.hid (show EntAt (wr.alloc (.cells #[.int .i64 d, .slice pa m pc] 51)) wr.heap.size d pa m pc from ⟨heap_alloc_new wr _⟩)
      obtain ⟨be, hbe⟩ : ∃ be, be = wr.heap.size := ⟨_, rfl⟩
      rw [← hbe] at HEa ⊢
      generalize wr.alloc (.cells #[.int .i64 d, .slice pa m pc] 51) = wa at HWa HEa ⊢
      have cb0 : wa.cell? ⟨be, 0, none⟩ = some (.int .i64 d) := cell_at HEa.out.out 0
      have cb1 : wa.cell? ⟨be, 1, none⟩ = some (.slice pa m pc) := cell_at HEa.out.out 1
      clear c0 c1 hbe
      obtain ⟨dp, hdp⟩ : ∃ dp : Int, 0 < i → (l.map (·.1)).getD (i - 1) 0 = dp := ⟨_, fun _ => rfl⟩
      obtain ⟨bb, hbb⟩ : ∃ bb : Bool, bb = decide (d < 0 ∨ 65535 < d ∨ (0 < i ∧ d ≤ dp) ∨ m = 0 ∨ 256 < m) := ⟨_, rfl⟩
      have cpp : ∀ i1, i = i1 + 1 → wa.cell? ⟨g, o + i1 * 2, none⟩ = some (.int .i64 dp) := fun i1 hi1 => by
        obtain ⟨g2, o2, hoa, cp0, _⟩ := HA.out i1 _ (enAt_lt (by rw [HN.out]; omega))
        injection hoa with hoa
        injection hoa with h1 h2
        subst h1 h2
        have := hdp (by omega)
        rw [doc_map, show i - 1 = i1 by omega] at this
        rw [this] at cp0
        exact below_cell cp0 HWa.out
      have HCpp := Lib.hid cpp
      have HDp := Lib.hid hdp
      clear cpp hdp
      go_upto_region 7 with fail
      go_cut [52] from 18 to 52 (fun cv wx => cv = .bool bb ∧ ∃ t, wx = wa.drewN t)
      case first =>
        by_cases hneg : d < 0
        · go_big_quiet (fail)
          go_wp2_with fail
          go_meet
          case rel => exact ⟨congrArg Value.bool (show true = bb from by rw [hbb]; simp <;> omega), _, rfl⟩
        by_cases hbig : 65535 < d
        · go_big_quiet (fail)
          go_wp2_with fail
          go_meet
          case rel => exact ⟨congrArg Value.bool (show true = bb from by rw [hbb]; simp <;> omega), _, rfl⟩
        by_cases hi0 : i = 0
        · subst hi0
          by_cases hz : m = 0
          · subst hz
            go_big_quiet (fail)
            go_wp2_with fail
            go_meet
            case rel => exact ⟨congrArg Value.bool (show true = bb from by rw [hbb]; simp <;> omega), _, rfl⟩
          have hz1 : ((m : Int) == 0) = false := beq_eq_false_iff_ne.2 (by omega)
          by_cases hlong : 256 < m
          · have hlong1 : (256 : Int) < (m : Int) := by omega
            go_big_quiet (fail)
            go_wp2_with fail
            go_meet
            case rel => exact ⟨congrArg Value.bool (show true = bb from by rw [hbb]; simp <;> omega), _, rfl⟩
          have hlong1 : ¬ (256 : Int) < (m : Int) := by omega
          go_big_quiet (fail)
          go_wp2_with fail
          go_meet
          case rel => exact ⟨congrArg Value.bool (show false = bb from by rw [hbb]; simp <;> omega), _, rfl⟩
        · obtain ⟨i1, hi1⟩ : ∃ i1, i = i1 + 1 := ⟨i - 1, by omega⟩
          have cp1 := HCpp.out i1 hi1
          have z1 : (i : Int) - 1 = (i1 : Int) := by omega
          have z2 : IntKind.i64.wrap (i1 : Int) = (i1 : Int) := IntWalk.i64_in _ (by omega)
          have z3 : (0 : Int) < (i : Int) := by omega
          have z4 : i1 < N := by omega
          have z5 : 0 < i := by omega
          clear hi1
          by_cases hle : d ≤ dp
          · go_big_quiet (fail)
            go_wp2_with fail
            go_meet
            case rel => exact ⟨congrArg Value.bool (show true = bb from by rw [hbb]; simp <;> omega), _, rfl⟩
          by_cases hz : m = 0
          · subst hz
            go_big_quiet (fail)
            go_wp2_with fail
            go_meet
            case rel => exact ⟨congrArg Value.bool (show true = bb from by rw [hbb]; simp <;> omega), _, rfl⟩
          have hz1 : ((m : Int) == 0) = false := beq_eq_false_iff_ne.2 (by omega)
          by_cases hlong : 256 < m
          · have hlong1 : (256 : Int) < (m : Int) := by omega
            go_big_quiet (fail)
            go_wp2_with fail
            go_meet
            case rel => exact ⟨congrArg Value.bool (show true = bb from by rw [hbb]; simp <;> omega), _, rfl⟩
          have hlong1 : ¬ (256 : Int) < (m : Int) := by omega
          go_big_quiet (fail)
          go_wp2_with fail
          go_meet
          case rel => exact ⟨congrArg Value.bool (show false = bb from by rw [hbb]; simp <;> omega), _, rfl⟩
      case rest =>
        obtain ⟨rfl, t, rfl⟩ := hcut
        have HWt := Lib.hid (below_drawn HWa.out t)
        have HEt := Lib.hid (show EntAt (wa.drewN t) be d pa m pc from ⟨HEa.out.out⟩)
        clear cb0 cb1
        generalize wa.drewN t = wt at HWt HEt ⊢
        have cb1 : wt.cell? ⟨be, 1, none⟩ = some (.slice pa m pc) := cell_at HEt.out.out 1
        cases bb with
        | true =>
          have HBad := Lib.hid (show mayB l = false from HNot.out fun h => by
            obtain ⟨⟨h1, h2, h3⟩, h4, h5, _⟩ := h
            rw [HDl.out] at h1 h2 h3
            rw [HE.out, HM.out] at h4 h5
            have h7 := of_decide_eq_true hbb.symm
            rcases h7 with h7 | h7 | ⟨h7, h8⟩ | h7 | h7
            · omega
            · omega
            · have := h3 h7
              rw [HDp.out h7] at this
              omega
            · omega
            · omega)
          clear hbb
          go_wp2_with fail
          go_ret
          exact ⟨by rw [HBad.out]; rfl, HWt.out⟩
        | false =>
          have h7 := of_decide_eq_false hbb.symm
          have HDoc := Lib.hid (show okP (l.map (·.1)) i from ⟨by rw [HDl.out]; omega, by rw [HDl.out]; omega, fun h0 => by rw [HDl.out, HDp.out h0]; omega⟩)
          have hmb : 1 ≤ m ∧ m ≤ 256 := by omega
          clear hbb h7
          go_wp2_with fail
          go_loopw [56] (fun kv wr => ∃ k : Nat, k ≤ m ∧ kv = .int .i64 (k : Int) ∧ Below W.heap.size W wr ∧ EntAt wr be d pa m pc ∧ Hid (∀ t, t < k → okP ps t)) (fun kv _ => m - (intOf kv).toNat)
          case atStart => exact ⟨0, by omega, rfl, HWt.out, HEt.out, Lib.hid fun t ht => absurd ht (by omega)⟩
          case round =>
            obtain ⟨k, hk, rfl, hw2, he2, HR2⟩ := hrel
            have HW2 := Lib.hid hw2
            have HE2 := Lib.hid he2
            clear cb1
            have cb1 : wr.cell? ⟨be, 1, none⟩ = some (.slice pa m pc) := cell_at he2.out 1
            clear hw2 he2
            by_cases hkm : k < m
            · have hkm1 : (k : Int) < (m : Int) := by omega
              obtain ⟨x, hx⟩ : ∃ x, ps[k]? = some x := ⟨_, List.getElem?_eq_getElem (by rw [HM.out]; exact hkm)⟩
              obtain ⟨gp, op, hpa, cx0⟩ := HP.out k x hx
              subst hpa
              have cx : wr.cell? ⟨gp, op + k, none⟩ = some (.int .i64 x) := below_cell cx0 HW2.out
              have HXe := Lib.hid (show ps.getD k 0 = x by rw [List.getD_eq_getElem?_getD, hx]; rfl)
              have HNot2 := Lib.hid (show ¬ okP ps k → mayB l = false from fun h => HNot.out fun hM => h (by have := hM.2.2.2; rw [HE.out] at this; exact this k (by rw [HM.out]; exact hkm)))
              obtain ⟨xp, hxp⟩ : ∃ xp : Int, 0 < k → ps.getD (k - 1) 0 = xp := ⟨_, fun _ => rfl⟩
              obtain ⟨cc, hcc⟩ : ∃ cc : Bool, cc = decide (x < 0 ∨ 65535 < x ∨ (0 < k ∧ x ≤ xp)) := ⟨_, rfl⟩
              have cp : ∀ k1, k = k1 + 1 → wr.cell? ⟨gp, op + k1, none⟩ = some (.int .i64 xp) := fun k1 hk1 => by
                obtain ⟨y, hy⟩ : ∃ y, ps[k1]? = some y := ⟨_, List.getElem?_eq_getElem (by rw [HM.out]; omega)⟩
                obtain ⟨g2, o2, hoa, cp0⟩ := HP.out k1 y hy
                injection hoa with hoa
                injection hoa with h1 h2
                subst h1 h2
                have := hxp (by omega)
                rw [show k - 1 = k1 by omega, List.getD_eq_getElem?_getD, hy] at this
                simp only [Option.getD_some] at this
                rw [this] at cp0
                exact below_cell cp0 HW2.out
              have HCp := Lib.hid cp
              have HXp := Lib.hid hxp
              clear hx hxp cx0 cp
              go_upto_region 12 with fail
              go_cut [90] from 59 to 90 (fun cv wx => cv = .bool cc ∧ ∃ t, wx = wr.drewN t)
              case first =>
                by_cases hneg : x < 0
                · go_big_quiet (fail)
                  go_wp2_with fail
                  go_meet
                  case rel => exact ⟨congrArg Value.bool (show true = cc from by rw [hcc]; simp <;> omega), _, rfl⟩
                by_cases hbig : 65535 < x
                · go_big_quiet (fail)
                  go_wp2_with fail
                  go_meet
                  case rel => exact ⟨congrArg Value.bool (show true = cc from by rw [hcc]; simp <;> omega), _, rfl⟩
                by_cases hk0 : k = 0
                · subst hk0
                  rw [Nat.add_zero] at cx
                  go_big_quiet (fail)
                  go_wp2_with fail
                  go_meet
                  case rel => exact ⟨congrArg Value.bool (show false = cc from by rw [hcc]; simp <;> omega), _, rfl⟩
                · obtain ⟨k1, hk1⟩ : ∃ k1, k = k1 + 1 := ⟨k - 1, by omega⟩
                  have cp1 := HCp.out k1 hk1
                  have z1 : (k : Int) - 1 = (k1 : Int) := by omega
                  have z2 : IntKind.i64.wrap (k1 : Int) = (k1 : Int) := IntWalk.i64_in _ (by omega)
                  have z3 : (0 : Int) < (k : Int) := by omega
                  have z4 : k1 < m := by omega
                  have z5 : 0 < k := by omega
                  clear hk1
                  by_cases hle : x ≤ xp
                  · go_big_quiet (fail)
                    go_wp2_with fail
                    go_meet
                    case rel => exact ⟨congrArg Value.bool (show true = cc from by rw [hcc]; simp <;> omega), _, rfl⟩
                  go_big_quiet (fail)
                  go_wp2_with fail
                  go_meet
                  case rel => exact ⟨congrArg Value.bool (show false = cc from by rw [hcc]; simp <;> omega), _, rfl⟩
              case rest =>
                obtain ⟨rfl, t2, rfl⟩ := hcut
                have HW3 := Lib.hid (below_drawn HW2.out t2)
                have HE3 := Lib.hid (show EntAt (wr.drewN t2) be d (some ⟨gp, op, none⟩) m pc from ⟨HE2.out.out⟩)
                clear cb1 cx
                generalize wr.drewN t2 = w3 at HW3 HE3 ⊢
                cases cc with
                | true =>
                  have HBad := Lib.hid (show mayB l = false from HNot2.out fun h => by
                    obtain ⟨h1, h2, h3⟩ := h
                    rw [HXe.out] at h1 h2 h3
                    have h7 := of_decide_eq_true hcc.symm
                    rcases h7 with h7 | h7 | ⟨h7, h8⟩
                    · omega
                    · omega
                    · have := h3 h7
                      rw [HXp.out h7] at this
                      omega)
                  clear hcc
                  go_wp2_with fail
                  go_ret
                  exact ⟨by rw [HBad.out]; rfl, HW3.out⟩
                | false =>
                  have h7 := of_decide_eq_false hcc.symm
                  have HNx := Lib.hid (show ∀ t, t < k + 1 → okP ps t from fun t ht => by
                    by_cases htk : t < k
                    · exact HR2.out t htk
                    · obtain rfl : t = k := by omega
                      exact ⟨by rw [HXe.out]; omega, by rw [HXe.out]; omega, fun h0 => by rw [HXe.out, HXp.out h0]; omega⟩)
                  clear hcc h7
                  go_wp2_with fail
                  go_roundw
                  case rel => exact ⟨k + 1, by omega, by go_num, HW3.out, HE3.out, HNx⟩
                  case measure => simp [intOf]; omega
            · obtain rfl : k = m := by omega
              have HNext := Lib.hid (show ∀ j, j < i + 1 → okE l j from fun j hj => by
                by_cases hji : j < i
                · exact HR.out j hji
                · obtain rfl : j = i := by omega
                  exact ⟨HDoc.out, by rw [HE.out, HM.out]; omega, by rw [HE.out, HM.out]; omega, by rw [HE.out]; exact fun t ht => HR2.out t (by rw [HM.out] at ht; exact ht)⟩)
              go_wp2_with fail
              go_roundw
              case rel => exact ⟨i + 1, by omega, by go_num, HW2.out, HNext⟩
              case measure => simp [intOf]; omega
    · obtain rfl : i = N := by omega
      have HT := Lib.hid (show mayB l = true from decide_eq_true ⟨by have := HN.out; omega, fun j hj => HR.out j (by rw [← HN.out]; exact hj)⟩)
      go_wp2_with fail
      go_ret
      exact ⟨by rw [HT.out]; rfl, HW.out⟩
end Go.Proofs.Ytkjimgidlpocbaa

namespace Go.Proofs.Ytkjimgidlpocbaa
open Go.RowKit

set_option maxRecDepth 100000 in
set_option maxHeartbeats 4000000 in
theorem ref_entry13 (W : World) (oa : Option Addr) (c N i : Nat) (l : List En) (en : l.length = N) (ha : ReadE W oa l) (hM : MayE l) (hi : i < N) :
    Calls Try.prog 55 #[.slice oa N c, .int .i64 (i : Int)] W fun e w' => ∃ v, e = .returned v ∧ OwnN 5 .u8 w' W.heap.size v (entB (aheadD l i) (enAt l i)) ∧ Below W.heap.size W w' := by
  have h64 := hM.1
  have hil : i < l.length := by omega
  obtain ⟨g, o, rfl, c0, p, c1, pa, pc, rfl, p1, p2, p3, p4⟩ := ha i _ (enAt_lt hil)
  have hdoc := may_doc hM hil
  have hah := may_ahead hM hil
  obtain ⟨_, hm1, hm2, hup⟩ := hM.2 i hil
  have hblen := entB_len hM hil
  obtain ⟨a, hAh⟩ : ∃ a, aheadD l i = a := ⟨_, rfl⟩
  obtain ⟨d, hd⟩ : ∃ d, (enAt l i).1 = d := ⟨_, rfl⟩
  obtain ⟨ps, hps⟩ : ∃ ps, (enAt l i).2 = ps := ⟨_, rfl⟩
  rw [hAh, hd] at hah
  rw [hd] at hdoc c0
  rw [hps] at c1 p1 p4 hm1 hm2 hup
  obtain ⟨m, hm⟩ : ∃ m, ps.length = m := ⟨_, rfl⟩
  rw [hm] at c1 p1 hm1 hm2
  obtain ⟨n1, hn1⟩ : ∃ n1 : Nat, d - a = (n1 : Int) := Int.eq_ofNat_of_zero_le (by omega)
  have hent : entB (aheadD l i) (enAt l i) = putN n1 ++ (putN m ++ posB 0 ps) := by
    unfold entB
    rw [hAh, hd, hps, hm, hn1, Int.toNat_natCast]
  rw [hent] at hblen
  have HEnt := Lib.hid hent
  obtain ⟨P1, hP1⟩ : ∃ P, putN n1 = P := ⟨_, rfl⟩
  obtain ⟨P2, hP2⟩ : ∃ P, putN m = P := ⟨_, rfl⟩
  obtain ⟨k1, hk1⟩ : ∃ k, P1.length = k := ⟨_, rfl⟩
  obtain ⟨k2, hk2⟩ : ∃ k, P2.length = k := ⟨_, rfl⟩
  have HPut1 := Lib.hid (fun w => (ref_put w n1 (by omega)))
  have HPut2 := Lib.hid (fun w => (ref_put w m (by omega)))
  rw [hP1] at HPut1 hblen HEnt
  rw [hP2] at HPut2 hblen HEnt
  simp only [List.length_append] at hblen
  have HK1 := Lib.hid hk1
  have HK2 := Lib.hid hk2
  have HL2 := Lib.hid (show P1.length + k2 ≤ 1000000 by omega)
  have HL3 := Lib.hid (show (P1 ++ P2 ++ posB 0 ps).length ≤ 100000 by simp only [List.length_append]; omega)
  have HGP := Lib.hid (goodP_first hup)
  have HM := Lib.hid hm
  have HRd := Lib.hid p4
  have s3 : IntKind.u32.wrap (n1 : Int) = (n1 : Int) := IntWalk.u32_in _ (by omega)
  have s4 : IntKind.u32.wrap (m : Int) = (m : Int) := IntWalk.u32_in _ (by omega)
  have HC1 := Lib.hid c1
  obtain ⟨r, hr⟩ : ∃ r, i % 4 = r := ⟨_, rfl⟩
  have r1 : (i : Int) % 4 = (r : Int) := by omega
  have r2 : (i : Int).tmod 4 = (r : Int) := by rw [Int.tmod_eq_emod_of_nonneg (by omega)]; exact r1
  have tail : ∀ (x y : Value), True := fun _ _ => trivial
  clear tail hent hps hd hm hup hP1 hP2 hk1 hk2 hblen p4 p2
  by_cases hr0 : r = 0
  · have ha0 : a = 0 := by rw [← hAh]; unfold aheadD; rw [if_pos (by omega)]
    have hdn : d = (n1 : Int) := by omega
    have r3 : ((r : Int) != 0) = false := by rw [hr0]; rfl
    rw [hdn] at c0
    clear ha0 hdn hAh hr hr0 hn1 hah hdoc ha hM en hil
    go_enter Try.func55, Try.ntmps55
    go_wp2_with fail
    refine (HPut1.out _).mono ?_; rintro e' w1 ⟨v1, rfl, ho1, hb1⟩
    obtain ⟨q1, z1, rfl, _⟩ := ho1.reads_of k1 HK1.out
    have HO := Lib.hid ho1
    have HW := Lib.hid hb1
    clear ho1 hb1 c0 c1
    have c1 := below_cell HC1.out HW.out
    go_wp2_with fail
    refine (HPut2.out _).mono ?_; rintro e' w3 ⟨v3, rfl, ho1, hb1⟩
    obtain ⟨q2, z2, rfl, x1, _, x2, hv1⟩ := ho1.reads_of k2 HK2.out
    have HO3 := Lib.hid (HO.out.below hb1)
    have HW3 := Lib.hid (low_more HW.out hb1)
    have HV3 := Lib.hid hv1
    clear ho1 hb1 hv1 c1
    have hwc : Below W.heap.size W w3 := HW3.out
    go_wp2_with (at_builtin; refine append_u8 (W := W) rfl (.tmp 28) (.tmp 36) rfl _ P1 P2 rfl HW3.out HO3.out q2 z2 k2 HK2.out rfl HV3.out x2 x1 HL2.out ?_; intro v4 w4 ho hg2; have HO4 := Lib.hid ho; clear ho hg2; have c1 := below_cell HC1.out HO4.out.2)
    go_loopw [6, 44] (fun bv kv wr => ∃ (k : Nat) (a2 : Int) (acc2 : List Nat), k ≤ m ∧ kv = .int .i64 (k : Int) ∧ Hid (acc2 ++ posB a2 (ps.drop k) = P1 ++ P2 ++ posB 0 ps ∧ GoodP a2 (ps.drop k) ∧ (k = 0 → a2 = 0) ∧ ∀ j, k = j + 1 → ps[j]? = some a2) ∧ OwnN 5 .u8 wr W.heap.size bv acc2 ∧ Below W.heap.size W wr) (fun _ kv _ => m - (intOf kv).toNat)
    case atStart => exact ⟨0, 0, P1 ++ P2, by omega, rfl, Lib.hid (by rw [List.drop_zero]; exact ⟨rfl, HGP.out, fun _ => rfl, fun j hj => by omega⟩), HO4.out.1, HO4.out.2⟩
    case round =>
      obtain ⟨k, a2, acc2, hk, rfl, HR2, hown, hlow⟩ := hrel
      have HO5 := Lib.hid hown
      have HW5 := Lib.hid hlow
      clear hown hlow c1
      have c1 := below_cell HC1.out HW5.out
      by_cases hkm : k < m
      · obtain ⟨x, hx⟩ : ∃ x, ps[k]? = some x := ⟨_, List.getElem?_eq_getElem (by rw [HM.out]; exact hkm)⟩
        obtain ⟨gp, op, hpa, cx⟩ := HRd.out k x hx
        subst hpa
        have cx := below_cell cx HW5.out
        have hkm1 : (k : Int) < (m : Int) := by omega
        obtain ⟨hq1, hq2, hq3, hq4⟩ := HR2.out
        rw [drop_en hx] at hq1 hq2
        simp only [posB, GoodP] at hq1 hq2
        obtain ⟨f0, f1, f2, f3⟩ := hq2
        obtain ⟨n3, hn3⟩ : ∃ n3 : Nat, x - a2 = (n3 : Int) := Int.eq_ofNat_of_zero_le (by omega)
        rw [hn3, Int.toNat_natCast] at hq1
        have hn3b : n3 ≤ 65535 := by omega
        obtain ⟨P3, hP3⟩ : ∃ P, putN n3 = P := ⟨_, rfl⟩
        obtain ⟨k3, hk3⟩ : ∃ k, P3.length = k := ⟨_, rfl⟩
        rw [hP3] at hq1
        have hlen := congrArg List.length hq1
        have hl3 := HL3.out
        rw [← hlen] at hl3
        simp only [List.length_append] at hl3
        have HL5 := Lib.hid (show acc2.length + k3 ≤ 1000000 by omega)
        have HNx := Lib.hid (show (acc2 ++ P3) ++ posB x (ps.drop (k + 1)) = P1 ++ P2 ++ posB 0 ps ∧ GoodP x (ps.drop (k + 1)) ∧ (k + 1 = 0 → x = 0) ∧ ∀ j, k + 1 = j + 1 → ps[j]? = some x from ⟨by rw [← hq1, List.append_assoc], f3, fun h => by omega, fun j hj => (show j = k by omega) ▸ hx⟩)
        have HPut3 := Lib.hid (fun w => (ref_put w n3 (by omega)))
        rw [hP3] at HPut3
        have HK3 := Lib.hid hk3
        have t3 : IntKind.u32.wrap (n3 : Int) = (n3 : Int) := IntWalk.u32_in _ (by omega)
        have t4 : IntKind.i64.wrap (n3 : Int) = (n3 : Int) := IntWalk.i64_in _ (by omega)
        by_cases hk0 : k = 0
        · subst hk0
          have ha2 := hq3 rfl
          have hxn : x = (n3 : Int) := by omega
          rw [hxn, Nat.add_zero] at cx
          clear hq1 hq3 hq4 hlen hl3 hP3 hk3 f3 hx f0 f1 f2 hn3 ha2 hxn
          go_wp2_with fail
          refine (HPut3.out _).mono ?_; rintro e' w6 ⟨v6, rfl, ho1, hb1⟩
          obtain ⟨q3, z3, rfl, g1, _, g2, hv1⟩ := ho1.reads_of k3 HK3.out
          have HO6 := Lib.hid (HO5.out.below hb1)
          have HW6 := Lib.hid (low_more HW5.out hb1)
          have HV6 := Lib.hid hv1
          clear ho1 hb1 hv1 cx c1
          go_wp2_with (at_builtin; refine append_u8 (W := W) rfl (.tmp 68) (.tmp 71) rfl _ acc2 P3 rfl HW6.out HO6.out q3 z3 k3 HK3.out rfl HV6.out g2 g1 HL5.out ?_; intro v7 w7 ho _; have HO7 := Lib.hid ho; clear ho)
          go_roundw
          case rel => exact ⟨_, x, acc2 ++ P3, by omega, by go_num, HNx, HO7.out.1, HO7.out.2⟩
          case measure => simp [intOf]; omega
        · obtain ⟨j, hj⟩ : ∃ j, k = j + 1 := ⟨k - 1, by omega⟩
          obtain ⟨gp2, op2, hpa, cj⟩ := HRd.out j a2 (hq4 j hj)
          injection hpa with hpa
          injection hpa with e1 e2
          subst e1 e2
          have cj := below_cell cj HW5.out
          have t1 : (k : Int) - 1 = (j : Int) := by omega
          have t2 : IntKind.i64.wrap ((k : Int) - 1) = (j : Int) := by rw [t1]; exact IntWalk.i64_in _ (by omega)
          have t5 : IntKind.i64.wrap (j : Int) = (j : Int) := IntWalk.i64_in _ (by omega)
          have t6 : IntKind.i64.wrap (x - a2) = (n3 : Int) := by rw [hn3]; exact IntWalk.i64_in _ (by omega)
          have hkp : (0 : Int) < (k : Int) := by omega
          have hjm : j < m := by omega
          clear hq1 hq3 hq4 hlen hl3 hP3 hk3 f3 hx f0 f1 f2 hk0 hj
          go_wp2_with fail
          refine (HPut3.out _).mono ?_; rintro e' w6 ⟨v6, rfl, ho1, hb1⟩
          obtain ⟨q3, z3, rfl, g1, _, g2, hv1⟩ := ho1.reads_of k3 HK3.out
          have HO6 := Lib.hid (HO5.out.below hb1)
          have HW6 := Lib.hid (low_more HW5.out hb1)
          have HV6 := Lib.hid hv1
          clear ho1 hb1 hv1 cx c1
          go_wp2_with (at_builtin; refine append_u8 (W := W) rfl (.tmp 68) (.tmp 71) rfl _ acc2 P3 rfl HW6.out HO6.out q3 z3 k3 HK3.out rfl HV6.out g2 g1 HL5.out ?_; intro v7 w7 ho _; have HO7 := Lib.hid ho; clear ho)
          go_roundw
          case rel => exact ⟨_, x, acc2 ++ P3, by omega, by go_num, HNx, HO7.out.1, HO7.out.2⟩
          case measure => simp [intOf]; omega
      · obtain rfl : k = m := by omega
        have HEq := Lib.hid (show acc2 = P1 ++ P2 ++ posB 0 ps by
          have := HR2.out.1
          rw [List.drop_eq_nil_of_le (by have := HM.out; omega)] at this
          simpa [posB] using this)
        clear c1
        go_wp2_with fail
        go_ret
        exact ⟨_, rfl, by rw [HEnt.out, ← List.append_assoc, ← HEq.out]; exact HO5.out, HW5.out⟩
  · obtain ⟨i1, hi1⟩ : ∃ i1, i = i1 + 1 := ⟨i - 1, by omega⟩
    have haa : (enAt l i1).1 = a := by rw [← hAh]; unfold aheadD; rw [if_neg (by omega), show i - 1 = i1 by omega]
    obtain ⟨g2, o2, hgo, cp, _⟩ := ha i1 _ (enAt_lt (by omega))
    injection hgo with hgo
    injection hgo with e1 e2
    subst e1 e2
    rw [haa] at cp
    have u1 : (i : Int) - 1 = (i1 : Int) := by omega
    have u2 : IntKind.i64.wrap ((i : Int) - 1) = (i1 : Int) := by rw [u1]; exact IntWalk.i64_in _ (by omega)
    have u3 : IntKind.i64.wrap (i1 : Int) = (i1 : Int) := IntWalk.i64_in _ (by omega)
    have s2 : IntKind.i64.wrap (d - a) = (n1 : Int) := by rw [hn1]; exact IntWalk.i64_in _ (by omega)
    have s5 : IntKind.i64.wrap (n1 : Int) = (n1 : Int) := IntWalk.i64_in _ (by omega)
    have hi1N : i1 < N := by omega
    have r3 : ((r : Int) != 0) = true := bne_iff_ne.2 (by omega)
    clear hAh hr hr0 hah hdoc ha hM en hil haa hi1
    go_enter Try.func55, Try.ntmps55
    go_wp2_with fail
    refine (HPut1.out _).mono ?_; rintro e' w1 ⟨v1, rfl, ho1, hb1⟩
    obtain ⟨q1, z1, rfl, _⟩ := ho1.reads_of k1 HK1.out
    have HO := Lib.hid ho1
    have HW := Lib.hid hb1
    clear ho1 hb1 c0 c1
    have c1 := below_cell HC1.out HW.out
    go_wp2_with fail
    refine (HPut2.out _).mono ?_; rintro e' w3 ⟨v3, rfl, ho1, hb1⟩
    obtain ⟨q2, z2, rfl, x1, _, x2, hv1⟩ := ho1.reads_of k2 HK2.out
    have HO3 := Lib.hid (HO.out.below hb1)
    have HW3 := Lib.hid (low_more HW.out hb1)
    have HV3 := Lib.hid hv1
    clear ho1 hb1 hv1 c1
    have hwc : Below W.heap.size W w3 := HW3.out
    go_wp2_with (at_builtin; refine append_u8 (W := W) rfl (.tmp 28) (.tmp 36) rfl _ P1 P2 rfl HW3.out HO3.out q2 z2 k2 HK2.out rfl HV3.out x2 x1 HL2.out ?_; intro v4 w4 ho hg2; have HO4 := Lib.hid ho; clear ho hg2; have c1 := below_cell HC1.out HO4.out.2)
    go_loopw [6, 44] (fun bv kv wr => ∃ (k : Nat) (a2 : Int) (acc2 : List Nat), k ≤ m ∧ kv = .int .i64 (k : Int) ∧ Hid (acc2 ++ posB a2 (ps.drop k) = P1 ++ P2 ++ posB 0 ps ∧ GoodP a2 (ps.drop k) ∧ (k = 0 → a2 = 0) ∧ ∀ j, k = j + 1 → ps[j]? = some a2) ∧ OwnN 5 .u8 wr W.heap.size bv acc2 ∧ Below W.heap.size W wr) (fun _ kv _ => m - (intOf kv).toNat)
    case atStart => exact ⟨0, 0, P1 ++ P2, by omega, rfl, Lib.hid (by rw [List.drop_zero]; exact ⟨rfl, HGP.out, fun _ => rfl, fun j hj => by omega⟩), HO4.out.1, HO4.out.2⟩
    case round =>
      obtain ⟨k, a2, acc2, hk, rfl, HR2, hown, hlow⟩ := hrel
      have HO5 := Lib.hid hown
      have HW5 := Lib.hid hlow
      clear hown hlow c1
      have c1 := below_cell HC1.out HW5.out
      by_cases hkm : k < m
      · obtain ⟨x, hx⟩ : ∃ x, ps[k]? = some x := ⟨_, List.getElem?_eq_getElem (by rw [HM.out]; exact hkm)⟩
        obtain ⟨gp, op, hpa, cx⟩ := HRd.out k x hx
        subst hpa
        have cx := below_cell cx HW5.out
        have hkm1 : (k : Int) < (m : Int) := by omega
        obtain ⟨hq1, hq2, hq3, hq4⟩ := HR2.out
        rw [drop_en hx] at hq1 hq2
        simp only [posB, GoodP] at hq1 hq2
        obtain ⟨f0, f1, f2, f3⟩ := hq2
        obtain ⟨n3, hn3⟩ : ∃ n3 : Nat, x - a2 = (n3 : Int) := Int.eq_ofNat_of_zero_le (by omega)
        rw [hn3, Int.toNat_natCast] at hq1
        have hn3b : n3 ≤ 65535 := by omega
        obtain ⟨P3, hP3⟩ : ∃ P, putN n3 = P := ⟨_, rfl⟩
        obtain ⟨k3, hk3⟩ : ∃ k, P3.length = k := ⟨_, rfl⟩
        rw [hP3] at hq1
        have hlen := congrArg List.length hq1
        have hl3 := HL3.out
        rw [← hlen] at hl3
        simp only [List.length_append] at hl3
        have HL5 := Lib.hid (show acc2.length + k3 ≤ 1000000 by omega)
        have HNx := Lib.hid (show (acc2 ++ P3) ++ posB x (ps.drop (k + 1)) = P1 ++ P2 ++ posB 0 ps ∧ GoodP x (ps.drop (k + 1)) ∧ (k + 1 = 0 → x = 0) ∧ ∀ j, k + 1 = j + 1 → ps[j]? = some x from ⟨by rw [← hq1, List.append_assoc], f3, fun h => by omega, fun j hj => (show j = k by omega) ▸ hx⟩)
        have HPut3 := Lib.hid (fun w => (ref_put w n3 (by omega)))
        rw [hP3] at HPut3
        have HK3 := Lib.hid hk3
        have t3 : IntKind.u32.wrap (n3 : Int) = (n3 : Int) := IntWalk.u32_in _ (by omega)
        have t4 : IntKind.i64.wrap (n3 : Int) = (n3 : Int) := IntWalk.i64_in _ (by omega)
        by_cases hk0 : k = 0
        · subst hk0
          have ha2 := hq3 rfl
          have hxn : x = (n3 : Int) := by omega
          rw [hxn, Nat.add_zero] at cx
          clear hq1 hq3 hq4 hlen hl3 hP3 hk3 f3 hx f0 f1 f2 hn3 ha2 hxn
          go_wp2_with fail
          refine (HPut3.out _).mono ?_; rintro e' w6 ⟨v6, rfl, ho1, hb1⟩
          obtain ⟨q3, z3, rfl, g1, _, g2, hv1⟩ := ho1.reads_of k3 HK3.out
          have HO6 := Lib.hid (HO5.out.below hb1)
          have HW6 := Lib.hid (low_more HW5.out hb1)
          have HV6 := Lib.hid hv1
          clear ho1 hb1 hv1 cx c1
          go_wp2_with (at_builtin; refine append_u8 (W := W) rfl (.tmp 68) (.tmp 71) rfl _ acc2 P3 rfl HW6.out HO6.out q3 z3 k3 HK3.out rfl HV6.out g2 g1 HL5.out ?_; intro v7 w7 ho _; have HO7 := Lib.hid ho; clear ho)
          go_roundw
          case rel => exact ⟨_, x, acc2 ++ P3, by omega, by go_num, HNx, HO7.out.1, HO7.out.2⟩
          case measure => simp [intOf]; omega
        · obtain ⟨j, hj⟩ : ∃ j, k = j + 1 := ⟨k - 1, by omega⟩
          obtain ⟨gp2, op2, hpa, cj⟩ := HRd.out j a2 (hq4 j hj)
          injection hpa with hpa
          injection hpa with e1 e2
          subst e1 e2
          have cj := below_cell cj HW5.out
          have t1 : (k : Int) - 1 = (j : Int) := by omega
          have t2 : IntKind.i64.wrap ((k : Int) - 1) = (j : Int) := by rw [t1]; exact IntWalk.i64_in _ (by omega)
          have t5 : IntKind.i64.wrap (j : Int) = (j : Int) := IntWalk.i64_in _ (by omega)
          have t6 : IntKind.i64.wrap (x - a2) = (n3 : Int) := by rw [hn3]; exact IntWalk.i64_in _ (by omega)
          have hkp : (0 : Int) < (k : Int) := by omega
          have hjm : j < m := by omega
          clear hq1 hq3 hq4 hlen hl3 hP3 hk3 f3 hx f0 f1 f2 hk0 hj
          go_wp2_with fail
          refine (HPut3.out _).mono ?_; rintro e' w6 ⟨v6, rfl, ho1, hb1⟩
          obtain ⟨q3, z3, rfl, g1, _, g2, hv1⟩ := ho1.reads_of k3 HK3.out
          have HO6 := Lib.hid (HO5.out.below hb1)
          have HW6 := Lib.hid (low_more HW5.out hb1)
          have HV6 := Lib.hid hv1
          clear ho1 hb1 hv1 cx c1
          go_wp2_with (at_builtin; refine append_u8 (W := W) rfl (.tmp 68) (.tmp 71) rfl _ acc2 P3 rfl HW6.out HO6.out q3 z3 k3 HK3.out rfl HV6.out g2 g1 HL5.out ?_; intro v7 w7 ho _; have HO7 := Lib.hid ho; clear ho)
          go_roundw
          case rel => exact ⟨_, x, acc2 ++ P3, by omega, by go_num, HNx, HO7.out.1, HO7.out.2⟩
          case measure => simp [intOf]; omega
      · obtain rfl : k = m := by omega
        have HEq := Lib.hid (show acc2 = P1 ++ P2 ++ posB 0 ps by
          have := HR2.out.1
          rw [List.drop_eq_nil_of_le (by have := HM.out; omega)] at this
          simpa [posB] using this)
        clear c1
        go_wp2_with fail
        go_ret
        exact ⟨_, rfl, by rw [HEnt.out, ← List.append_assoc, ← HEq.out]; exact HO5.out, HW5.out⟩
end Go.Proofs.Ytkjimgidlpocbaa

namespace Go.Proofs.Ytkjimgidlpocbaa
open Go.RowKit

/-- What is laid so far: the cells of the blocks, the bytes. -/
structure RE (W : World) (vs vb : Value) (A B : List Nat) (w : World) : Prop where
  s : OwnN 52 .u32 w W.heap.size vs A
  b : OwnN 5 .u8 w W.heap.size vb B
  low : Below W.heap.size W w
theorem RE.below {W w w' : World} {vs vb : Value} {A B : List Nat} (h : RE W vs vb A B w) (hb : Below w.heap.size w w') : RE W vs vb A B w' := ⟨h.s.below hb, h.b.below hb, low_more h.low hb⟩
theorem RE.head {W w w1 : World} {vs vb v' : Value} {A B : List Nat} {x n : Nat} (h : RE W vs vb A B w) (hn : A.length = n) (ho : w1.ownsRow W.heap.size 52 1 v' (n + 1) (numC .u32 A ++ [.int .u32 (x : Int)])) (hg : w.grownBy w1 vs.ownBlock) : RE W v' vb (A ++ [x]) B w1 := by
  subst hn
  exact ⟨by unfold OwnN; rw [numC_snoc, List.length_append]; exact ho, row_grown h.s hg h.b (by decide), h.low.grown hg h.low.size (fun k hk => (World.ownsRow.lt h.s k hk).1)⟩
theorem lastI_min {l : List En} {k N i : Nat} (hN : l.length = N) (hi : i = 4 * k) (j : Nat) (h1 : i ≤ j) (h2 : j ≤ i + 4) (h3 : j ≤ N) (h4 : ¬ (j < N ∧ j < i + 4)) : lastI l k = j - 1 := by
  unfold lastI
  omega

set_option maxRecDepth 100000 in
set_option maxHeartbeats 4000000 in
theorem ref_encode13 (W : World) (oa : Option Addr) (c N : Nat) (l : List En) (en : l.length = N) (ha : ReadE W oa l) (hl : N ≤ 100000) :
    Calls Try.prog 41 #[.slice oa N c] W fun e w' => ∃ v, e = .returned (.tuple #[v, .int .i64 (encE l)]) ∧ OwnN 52 .u32 w' W.heap.size v (encX l) ∧ Below W.heap.size W w' := by
  have HMay := Lib.hid (ref_may13 W oa c N l en ha (by omega))
  have HA := Lib.hid ha
  have HN := Lib.hid en
  clear ha en
  by_cases hm' : ¬ MayE l
  · have hm := hm'
    have HM := Lib.hid hm
    have HMay := Lib.hid (show Calls _ _ _ _ _ from (show mayB l = false from decide_eq_false hm) ▸ HMay.out)
    clear hm hm'
    go_enter Try.func41, Try.ntmps41
    go_wp2_with fail
    refine HMay.out.mono ?_; rintro e w1 ⟨rfl, hb⟩
    go_wp2_with fail
    go_ret2
    exact ⟨_, by rw [show encE l = 1 from if_neg HM.out]; rfl, by rw [show encX l = [] from if_neg HM.out]; exact OwnN.nil _ _ _ _, hb⟩
  have hm : MayE l := Classical.not_not.1 hm'
  have HM := Lib.hid hm
  have h64 : N ≤ 64 := by have := hm.1; have := HN.out; omega
  have HMay := Lib.hid (show Calls _ _ _ _ _ from (show mayB l = true from decide_eq_true hm) ▸ HMay.out)
  obtain ⟨i0, e0, e1, e2, e3⟩ := info_parts info_u32
  have HI := Lib.hid (And.intro e0 (And.intro e1 (And.intro e2 e3)))
  clear hm hm' e0 e1 e2 e3
  go_enter Try.func41, Try.ntmps41
  go_wp2_with fail
  refine HMay.out.mono ?_; rintro e w1 ⟨rfl, hb⟩
  go_wp2_with fail
  have HR0 := Lib.hid (show RE W (.slice (some ⟨w1.heap.size, 0, none⟩) 0 0) (.slice (some ⟨w1.heap.size + 1, 0, none⟩) 0 0) [] [] ((w1.alloc (.cells #[] 52)).alloc (.cells #[] 5)) from by
    have h1 := OwnN.new 52 .u32 w1 W.heap.size hb.size
    have h2 := OwnN.new 5 .u8 (w1.alloc (.cells #[] 52)) W.heap.size (by simp; have := hb.size; omega)
    rw [World.size_alloc] at h2
    exact ⟨h1.below below_one, h2, low_more hb below_al2⟩)
  generalize (w1.alloc (.cells #[] 52)).alloc (.cells #[] 5) = w2 at HR0 ⊢
  generalize w1.heap.size = q1 at HR0 ⊢
  clear hb
  go_loopw [4, 5, 17] (fun sv bv iv wr => ∃ i : Nat, i ≤ N ∧ iv = .int .i64 (i : Int) ∧ RE W sv bv (headsN l ((i + 3) / 4)) (bytesTo l i) wr) (fun _ _ iv _ => N - (intOf iv).toNat)
  case atStart => exact ⟨0, by omega, rfl, HR0.out⟩
  case round =>
    obtain ⟨i, hi, rfl, hre⟩ := hrel
    have HRE := Lib.hid hre
    clear hre
    by_cases hlt : i < N
    · have hlt1 : (i : Int) < (N : Int) := by omega
      have hbl := bytesTo_len HM.out i (by have := HN.out; omega)
      have hel := entB_len HM.out (i := i) (by have := HN.out; omega)
      have HEnt := Lib.hid (fun (w : World) (h : ReadE w oa l) => ref_entry13 w oa c N i l HN.out h HM.out hlt)
      have HNb := Lib.hid (show bytesTo l (i + 1) = bytesTo l i ++ entB (aheadD l i) (enAt l i) from rfl)
      obtain ⟨Z, hZ⟩ : ∃ Z, entB (aheadD l i) (enAt l i) = Z := ⟨_, rfl⟩
      rw [hZ] at hel HEnt HNb
      obtain ⟨zl, hzl⟩ : ∃ zl, Z.length = zl := ⟨_, rfl⟩
      have HZl := Lib.hid hzl
      have HL := Lib.hid (show (bytesTo l i).length + zl ≤ 1000000 by omega)
      obtain ⟨r, hr⟩ : ∃ r, i % 4 = r := ⟨_, rfl⟩
      have r1 : (i : Int) % 4 = (r : Int) := by omega
      have r2 : (i : Int).tmod 4 = (r : Int) := by rw [Int.tmod_eq_emod_of_nonneg (by omega)]; exact r1
      by_cases hr0 : r = 0
      · have r3 : ((r : Int) == 0) = true := by rw [hr0]; rfl
        obtain ⟨k, hk⟩ : ∃ k, i = 4 * k := ⟨i / 4, by omega⟩
        obtain ⟨p, hp⟩ : ∃ p, i + 4 = p := ⟨_, rfl⟩
        have p1 : (i : Int) + 4 = (p : Int) := by omega
        have p2 : IntKind.i64.wrap ((i : Int) + 4) = (p : Int) := by rw [p1]; exact IntWalk.i64_in _ (by omega)
        have p3 : IntKind.i64.wrap (p : Int) = (p : Int) := IntWalk.i64_in _ (by omega)
        have hln := HN.out
        obtain ⟨la, hla⟩ : ∃ la, lastI l k = la := ⟨_, rfl⟩
        have hlaN : la < N := by rw [← hla]; unfold lastI; omega
        obtain ⟨g, o, hoa, cd, _⟩ := HA.out la _ (enAt_lt (by omega))
        subst hoa
        obtain ⟨d, hd⟩ : ∃ d, (enAt l la).1 = d := ⟨_, rfl⟩
        rw [hd] at cd
        have hdb := may_doc HM.out (i := la) (by omega)
        rw [hd] at hdb
        obtain ⟨nb, hnb⟩ : ∃ nb, (bytesTo l i).length = nb := ⟨_, rfl⟩
        have hX := headAt_eq HM.out (k := k) (by omega)
        rw [hla, hd, ← hk, hnb] at hX
        obtain ⟨X, hXX⟩ : ∃ X, headAt l k = X := ⟨_, rfl⟩
        rw [hXX] at hX
        have HHd := Lib.hid (show headsN l ((i + 1 + 3) / 4) = headsN l ((i + 3) / 4) ++ [X] by rw [show (i + 1 + 3) / 4 = (i + 3) / 4 + 1 by omega, headsN_snoc, show (i + 3) / 4 = k by omega, hXX])
        have HLast := Lib.hid (fun j (h1 : i ≤ j) (h2 : j ≤ p) (h3 : j ≤ N) (h4 : ¬ (j < N ∧ j < p)) => (hla.symm.trans (lastI_min HN.out hk j h1 (by omega) h3 (by omega)) : la = j - 1))
        obtain ⟨na, hna⟩ : ∃ na, (headsN l ((i + 3) / 4)).length = na := ⟨_, rfl⟩
        have hnab : na ≤ 20 := by rw [← hna, headsN_length]; omega
        obtain ⟨vb1, zb, hvb⟩ := HRE.out.b.slice nb hnb
        subst hvb
        have HNa := Lib.hid hna
        have HCd := Lib.hid cd
        have v1 : 65536 * d + (nb : Int) = (X : Int) := by omega
        obtain ⟨D, hD⟩ : ∃ D : Nat, 65536 * d = (D : Int) := Int.eq_ofNat_of_zero_le (by omega)
        have v2 : IntKind.i64.wrap (65536 * d) = (D : Int) := by rw [hD]; exact IntWalk.i64_in _ (by omega)
        have v3 : (D : Int) + (nb : Int) = (X : Int) := by omega
        have v4 : IntKind.i64.wrap ((D : Int) + (nb : Int)) = (X : Int) := by rw [v3]; exact IntWalk.i64_in _ (by omega)
        have v5 : IntKind.u32.wrap (X : Int) = (X : Int) := IntWalk.u32_in _ (by omega)
        have v6 : IntKind.i64.wrap (X : Int) = (X : Int) := IntWalk.i64_in _ (by omega)
        have v7 : IntKind.i64.wrap (D : Int) = (D : Int) := IntWalk.i64_in _ (by omega)
        have hip : i < p ∧ p ≤ 68 := by omega
        clear hbl hel hZ hzl hr hr0 hk hp hln hla hd hdb hnb hX hXX hna cd v1
        go_wp2_with fail
        go_loopw [7, 8] (fun lv jv wx => ∃ (j t : Nat), lv = .int .i64 (t : Int) ∧ jv = .int .i64 (j : Int) ∧ i ≤ j ∧ j ≤ p ∧ j ≤ N ∧ Hid (t = if j = i then i else j - 1) ∧ wx = wr) (fun _ jv _ => N - (intOf jv).toNat)
        case atStart => exact ⟨i, i, rfl, rfl, by omega, by omega, by omega, Lib.hid (by rw [if_pos rfl]), rfl⟩
        case round =>
          obtain ⟨j, t, rfl, rfl, j1, j2, j3, HT, hw⟩ := hrel
          subst hw
          by_cases hjN : j < N
          · have jj1 : (j : Int) < (N : Int) := by omega
            by_cases hjp : j < p
            · have jj2 : (j : Int) < (p : Int) := by omega
              go_wp2_with fail
              go_roundw
              case rel => exact ⟨j + 1, j, rfl, by go_num, by omega, by omega, by omega, Lib.hid (by rw [if_neg (by omega)]; rfl), trivial⟩
              case measure => simp [intOf]; omega
            · have jj2 : ¬ (j : Int) < (p : Int) := by omega
              have htl : t = la := by rw [HT.out, if_neg (by omega)]; exact (HLast.out j j1 j2 j3 (by omega)).symm
              have HTl := Lib.hid htl
              have cd := below_cell HCd.out HRE.out.low
              have HRA := Lib.hid (HRE.out.below (below_one (w := wr) (A := .cells #[.int .u32 (X : Int)] 52)))
              subst htl
              go_wp2_with (at_builtin; refine wpList_append_own _ rfl (.tmp 38) (.tmp 49) 26 rfl W.heap.size 52 i0 _ 1 4 Try.underlying26 HI.out.1 HI.out.2.1 HI.out.2.2.1 HI.out.2.2.2 rfl (by decide) _ na (numC .u32 (headsN l ((i + 3) / 4))) rfl (HNa.out ▸ HRA.out.s) ⟨_, 0, none⟩ 1 1 [.int .u32 (X : Int)] rfl rfl one_cell (by simp [Value.oneCell']) (by unfold maxLen; omega) (by omega) HRA.out.low.size ?_; intro v5 w5 ho hg _; have HR5 := Lib.hid (HRA.out.head HNa.out ho hg); clear ho hg)
              refine (HEnt.out _ (HA.out.below HR5.out.low)).mono ?_; rintro e w3 ⟨v3, rfl, ho1, hb1⟩
              obtain ⟨q2, z2, rfl, x1, _, x2, hv1⟩ := ho1.reads_of zl HZl.out
              have HR3 := Lib.hid (HR5.out.below hb1)
              have HV3 := Lib.hid hv1
              clear ho1 hb1 hv1
              go_wp2_with (at_builtin; refine append_u8 (W := W) rfl (.tmp 51) (.tmp 54) rfl _ (bytesTo l i) Z rfl HR3.out.low HR3.out.b q2 z2 zl HZl.out rfl HV3.out x2 x1 HL.out ?_; intro v4 w4 ho hg2; have HR4 := Lib.hid (show RE W v5 v4 (headsN l ((i + 3) / 4) ++ [X]) (bytesTo l i ++ Z) w4 from ⟨row_grown HR3.out.b hg2 HR3.out.s (by decide), ho.1, ho.2⟩); clear ho hg2)
              go_roundw
              case rel => exact ⟨i + 1, by omega, by go_num, by rw [HHd.out, HNb.out]; exact HR4.out⟩
              case measure => simp [intOf]; omega
          · have jj1 : ¬ (j : Int) < (N : Int) := by omega
            have htl : t = la := by rw [HT.out, if_neg (by omega)]; exact (HLast.out j j1 j2 j3 (by omega)).symm
            have HTl := Lib.hid htl
            have cd := below_cell HCd.out HRE.out.low
            have HRA := Lib.hid (HRE.out.below (below_one (w := wr) (A := .cells #[.int .u32 (X : Int)] 52)))
            subst htl
            go_wp2_with (at_builtin; refine wpList_append_own _ rfl (.tmp 38) (.tmp 49) 26 rfl W.heap.size 52 i0 _ 1 4 Try.underlying26 HI.out.1 HI.out.2.1 HI.out.2.2.1 HI.out.2.2.2 rfl (by decide) _ na (numC .u32 (headsN l ((i + 3) / 4))) rfl (HNa.out ▸ HRA.out.s) ⟨_, 0, none⟩ 1 1 [.int .u32 (X : Int)] rfl rfl one_cell (by simp [Value.oneCell']) (by unfold maxLen; omega) (by omega) HRA.out.low.size ?_; intro v5 w5 ho hg _; have HR5 := Lib.hid (HRA.out.head HNa.out ho hg); clear ho hg)
            refine (HEnt.out _ (HA.out.below HR5.out.low)).mono ?_; rintro e w3 ⟨v3, rfl, ho1, hb1⟩
            obtain ⟨q2, z2, rfl, x1, _, x2, hv1⟩ := ho1.reads_of zl HZl.out
            have HR3 := Lib.hid (HR5.out.below hb1)
            have HV3 := Lib.hid hv1
            clear ho1 hb1 hv1
            go_wp2_with (at_builtin; refine append_u8 (W := W) rfl (.tmp 51) (.tmp 54) rfl _ (bytesTo l i) Z rfl HR3.out.low HR3.out.b q2 z2 zl HZl.out rfl HV3.out x2 x1 HL.out ?_; intro v4 w4 ho hg2; have HR4 := Lib.hid (show RE W v5 v4 (headsN l ((i + 3) / 4) ++ [X]) (bytesTo l i ++ Z) w4 from ⟨row_grown HR3.out.b hg2 HR3.out.s (by decide), ho.1, ho.2⟩); clear ho hg2)
            go_roundw
            case rel => exact ⟨i + 1, by omega, by go_num, by rw [HHd.out, HNb.out]; exact HR4.out⟩
            case measure => simp [intOf]; omega
      · have r3 : ((r : Int) == 0) = false := beq_eq_false_iff_ne.2 (by omega)
        have HHd := Lib.hid (show headsN l ((i + 1 + 3) / 4) = headsN l ((i + 3) / 4) by rw [show (i + 1 + 3) / 4 = (i + 3) / 4 by omega])
        clear hbl hel hZ hzl hr hr0
        go_wp2_with fail
        refine (HEnt.out _ (HA.out.below HRE.out.low)).mono ?_; rintro e w3 ⟨v3, rfl, ho1, hb1⟩
        obtain ⟨q2, z2, rfl, x1, _, x2, hv1⟩ := ho1.reads_of zl HZl.out
        have HR3 := Lib.hid (HRE.out.below hb1)
        have HV3 := Lib.hid hv1
        clear ho1 hb1 hv1
        go_wp2_with (at_builtin; refine append_u8 (W := W) rfl (.tmp 51) (.tmp 54) rfl _ (bytesTo l i) Z rfl HR3.out.low HR3.out.b q2 z2 zl HZl.out rfl HV3.out x2 x1 HL.out ?_; intro v4 w4 ho hg2; have HR4 := Lib.hid (show RE W _ v4 (headsN l ((i + 3) / 4)) (bytesTo l i ++ Z) w4 from ⟨row_grown HR3.out.b hg2 HR3.out.s (by decide), ho.1, ho.2⟩); clear ho hg2)
        go_roundw
        case rel => exact ⟨i + 1, by omega, by go_num, by rw [HHd.out, HNb.out]; exact HR4.out⟩
        case measure => simp [intOf]; omega
    · obtain rfl : i = N := by omega
      have hM := HM.out
      have hbl := bytesTo_len hM l.length (Nat.le_refl _)
      have hNl := HN.out
      have hre := HRE.out
      rw [← hNl] at hre
      obtain ⟨S, hS⟩ : ∃ S, S = byteText (bytesTo l l.length) := ⟨_, rfl⟩
      have hSb : bytesL S = bytesTo l l.length := by rw [hS]; exact bytesL_byteText _ (bytesTo_byte hM _ (Nat.le_refl _))
      have hSs : S.size ≤ 1000000 := by rw [← bytesL_length, hSb]; omega
      have HConv := Lib.hid (fun (w : World) (base : Nat) (v : Value) (h : OwnN 5 .u8 w base v (bytesTo l l.length)) => (bytes_string (show BytesIn w base v (bytesTo l l.length) from h) (bytesTo_byte hM _ (Nat.le_refl _))))
      have HCells := Lib.hid (fun w => ref_cells w S hSs)
      rw [hSb] at HCells
      rw [← hS] at HConv
      have hZl := cellsN_length (bytesTo l l.length)
      have HOut := Lib.hid (show encX l = ([i] ++ headsN l ((l.length + 3) / 4)) ++ cellsN (bytesTo l l.length) by rw [show encX l = encN l from if_pos hM]; unfold encN; rw [hNl]; rfl)
      obtain ⟨na, hna⟩ : ∃ na, (headsN l ((l.length + 3) / 4)).length = na := ⟨_, rfl⟩
      have hnab : na ≤ 20 := by rw [← hna, headsN_length]; omega
      obtain ⟨B, hB⟩ : ∃ B, bytesTo l l.length = B := ⟨_, rfl⟩
      rw [hB] at hre hbl hZl HOut HConv HCells
      obtain ⟨A, hA⟩ : ∃ A, headsN l ((l.length + 3) / 4) = A := ⟨_, rfl⟩
      rw [hA] at hre hna HOut
      obtain ⟨Z, hZ⟩ : ∃ Z, cellsN B = Z := ⟨_, rfl⟩
      rw [hZ] at hZl HOut HCells
      obtain ⟨zl, hzl⟩ : ∃ zl, Z.length = zl := ⟨_, rfl⟩
      have hzb : zl ≤ 20000 := by omega
      have HNum := Lib.hid (And.intro hna hzl)
      obtain ⟨oc, cc, hv, y1, _, y2, hrd⟩ := hre.s.reads_of na hna
      have HRd := Lib.hid hrd
      have HRe := Lib.hid hre
      have s4 : IntKind.u32.wrap (i : Int) = (i : Int) := IntWalk.u32_in _ (by omega)
      have HOwn1 := Lib.hid (show OwnN 52 .u32 (wr.alloc (.cells #[.int .u32 (i : Int)] 52)) W.heap.size (.slice (some ⟨wr.heap.size, 0, none⟩) 1 1) [i] from World.ownsRow_lit (base := W.heap.size) (e := 52) (size := 1) wr #[.int .u32 (i : Int)] 1 hre.low.size (by decide) (by simp))
      have HRe1 := Lib.hid (hre.below (below_one (w := wr) (A := .cells #[.int .u32 (i : Int)] 52)))
      subst hv
      clear hM hbl hNl hS hSb hSs hZl hna hB hA hZ hzl hre hrd HRE HRe
      go_wp2_with (at_builtin; refine append_u32 (W := W) rfl (.tmp 61) (.tmp 62) rfl _ [i] A rfl HRe1.out.low HOwn1.out oc cc na HNum.out.1 rfl (HRd.out.below below_one) y2 y1 (by simp; omega) ?_; intro v5 w5 ho hg; have HO5 := Lib.hid ho; have HB5 := Lib.hid (row_grown HOwn1.out hg HRe1.out.b (by decide)); have hcv := HConv.out w5 _ _ HB5.out; clear ho hg)
      refine (HCells.out w5).mono ?_; rintro e w6 ⟨v6, rfl, ho6, hb6⟩
      obtain ⟨o6, c6, rfl, z1, _, z2, hrd6⟩ := ho6.reads_of zl HNum.out.2
      have HO6 := Lib.hid (HO5.out.1.below hb6)
      have HW6 := Lib.hid (low_more HO5.out.2 hb6)
      have HRd6 := Lib.hid hrd6
      have HLn := Lib.hid (show ([i] ++ A).length + zl ≤ 1000000 by have := HNum.out.1; simp; omega)
      clear ho6 hb6 hrd6 hcv
      go_wp2_with (at_builtin; refine append_u32 (W := W) rfl (.tmp 64) (.tmp 67) rfl _ ([i] ++ A) Z rfl HW6.out HO6.out o6 c6 zl HNum.out.2 rfl HRd6.out z2 z1 HLn.out ?_; intro v7 w7 ho hg; have HO7 := Lib.hid ho; clear ho hg)
      go_ret2
      exact ⟨_, by rw [show encE l = 0 from if_pos HM.out]; rfl, by rw [HOut.out]; exact HO7.out.1, HO7.out.2⟩
end Go.Proofs.Ytkjimgidlpocbaa

namespace Go.Proofs.Ytkjimgidlpocbaa
open Go.RowKit

def badG (L : List Nat) (m : Nat) : Prop := (getR 5 L).2.2 ≠ 0 ∨ m < (getR 5 L).1
instance (L : List Nat) (m : Nat) : Decidable (badG L m) := by unfold badG; exact inferInstance
theorem posS_bad {n : Nat} {a : Int} {L : List Nat} (h : badG L 65535) : posS (n + 1) a L = none := by rw [posS, if_pos (show (getR 5 L).2.2 ≠ 0 ∨ 65535 < (getR 5 L).1 from h)]
theorem posS_step {n : Nat} {a : Int} {L : List Nat} (h : ¬ badG L 65535) : posS (n + 1) a L = (posS n (a + ((getR 5 L).1 : Int)) (L.drop (getR 5 L).2.1)).map fun r => ((a + ((getR 5 L).1 : Int)) :: r.1, r.2) := by
  rw [posS, if_neg (show ¬ ((getR 5 L).2.2 ≠ 0 ∨ 65535 < (getR 5 L).1) from h)]
  unfold nextN
  simp only
  cases posS n (a + ((getR 5 L).1 : Int)) (L.drop (getR 5 L).2.1) <;> rfl
theorem entS_bad1 {a : Int} {L : List Nat} (h : badG L 65535) : entS a L = none := by unfold entS; rw [if_pos (show (getR 5 L).2.2 ≠ 0 ∨ 65535 < (getR 5 L).1 from h)]
theorem entS_bad2 {a : Int} {L : List Nat} (h1 : ¬ badG L 65535) (h : badG (L.drop (getR 5 L).2.1) 256) : entS a L = none := by unfold entS; rw [if_neg (show ¬ ((getR 5 L).2.2 ≠ 0 ∨ 65535 < (getR 5 L).1) from h1), if_pos (show (getR 5 (nextN L).2).2.2 ≠ 0 ∨ 256 < (getR 5 (nextN L).2).1 from h)]
theorem entS_go {a : Int} {L : List Nat} (h1 : ¬ badG L 65535) (h2 : ¬ badG (L.drop (getR 5 L).2.1) 256) :
    entS a L = (posS (getR 5 (L.drop (getR 5 L).2.1)).1 0 ((L.drop (getR 5 L).2.1).drop (getR 5 (L.drop (getR 5 L).2.1)).2.1)).map fun r => ((a + ((getR 5 L).1 : Int), r.1), r.2) := by
  unfold entS
  rw [if_neg (show ¬ ((getR 5 L).2.2 ≠ 0 ∨ 65535 < (getR 5 L).1) from h1), if_neg (show ¬ ((getR 5 (nextN L).2).2.2 ≠ 0 ∨ 256 < (getR 5 (nextN L).2).1) from h2)]
  unfold nextN
  simp only
  cases posS (getR 5 (L.drop (getR 5 L).2.1)).1 0 ((L.drop (getR 5 L).2.1).drop (getR 5 (L.drop (getR 5 L).2.1)).2.1) <;> rfl
theorem readS_step {m : Nat} {l : List En} {L : List Nat} : readS (m + 1) l L = (entS (aheadD l l.length) L).bind fun r => readS m (l ++ [r.1]) r.2 := by
  rw [readS]
  cases entS (aheadD l l.length) L <;> rfl
/-- An entry that is read: in a block of its own, its places in rows of its own. -/
structure DX (wx : World) (d : Int) (u : Value) (acc : List Int) (wr : World) : Prop where
  e : wr.heap[wx.heap.size]? = some (.cells #[.int .i64 d, u] 51 (0, 0))
  own : OwnZ wr wx.heap.size u acc
  low : Below wx.heap.size wx wr
theorem DX.below {wx wr w1 : World} {d : Int} {u : Value} {acc : List Int} (h : DX wx d u acc wr) (hb : Below wr.heap.size wr w1) : DX wx d u acc w1 := ⟨block_below h.e hb, h.own.below hb, low_more h.low hb⟩
theorem DX.app {wx wr w1 : World} {d x : Int} {u v' : Value} {acc : List Int} {n : Nat} {o : Obj} (h : DX wx d u acc wr) (hl : acc.length = n) (ho : w1.ownsRow wx.heap.size 3 1 v' (n + 1) (zC acc ++ [.int .i64 x])) (hg : (wr.alloc o).grownBy w1 u.ownBlock) :
    w1.heap[wx.heap.size]? = some (.cells #[.int .i64 d, u] 51 (0, 0)) ∧ DX wx d v' (acc ++ [x]) (w1.setCell ⟨wx.heap.size, 1, none⟩ v') := by
  have hA : (wr.alloc o).ownsRow wx.heap.size 3 1 u acc.length (zC acc) := World.ownsRow.alloc h.own o
  have k1 := grown_block hA hg (by rw [Below.heap_alloc _ _ _ (lt_of_heap h.e)]; exact h.e) (by decide)
  have hb : Below wx.heap.size wx w1 := (low_new (o := o) h.low).grown hg (by simp; have := h.low.size; omega) (fun k hk => (World.ownsRow.lt hA k hk).1)
  subst hl
  refine ⟨k1, heap_setCell_same _ _ 1 _ _ v' k1, ?_, hb.setCell (p := ⟨wx.heap.size, 1, none⟩) (Nat.le_refl _) v'⟩
  unfold OwnZ
  rw [zC_snoc, List.length_append]
  exact row_mod ho (q := wx.heap.size) (fun k _ hk => Below.heap_setCell _ _ _ _ hk) k1 (by decide)
/-- The list so far. -/
structure DL (W : World) (B0 : Nat) (vo : Value) (acc : List En) (gt : Nat) (L0 : List Nat) (wr : World) : Prop where
  own : OwnE wr B0 vo acc
  base_le : B0 ≤ wr.heap.size
  rd : ReadN .u8 wr (some ⟨gt, 0, none⟩) L0
  low : Below W.heap.size W wr
theorem DL.below {W wr w1 : World} {B0 gt B : Nat} {vo : Value} {acc : List En} {L0 : List Nat} (h : DL W B0 vo acc gt L0 wr) (hb : Below B wr w1) (hB : wr.heap.size ≤ B) : DL W B0 vo acc gt L0 w1 := by
  have hb2 : Below wr.heap.size wr w1 := hb.mono hB
  exact ⟨h.own.below hb2, Nat.le_trans h.base_le hb2.size, h.rd.below hb2, low_more h.low hb2⟩
theorem DL.push {W w1 w8 : World} {B0 gt : Nat} {vo v' : Value} {acc : List En} {L0 : List Nat} {e : En} {u : Value} {i : Nat} {pss : List Value} (h : DL W B0 vo acc gt L0 w1) (hgt : gt < B0) (hBW : W.heap.size ≤ B0) (hal : acc.length = i) (hp1 : pss.length = acc.length) (hp2 : w1.ownsRow B0 51 2 vo acc.length (entC acc pss)) (hp3 : ∀ (j : Nat) (e : En), acc[j]? = some e → ∃ u, pss[j]? = some u ∧ OwnZ w1 B0 u e.2) (hu : OwnZ w1 B0 u e.2)
    (ho : w8.ownsRow B0 51 2 v' (i + 1) (entC acc pss ++ [.int .i64 e.1, u])) (hg : w1.grownBy w8 vo.ownBlock) : DL W B0 v' (acc ++ [e]) gt L0 w8 := by
  subst hal
  obtain ⟨h1, h2⟩ := OwnE.push_from hBW h.low.size h.low hp1 hp2 hp3 hu ho hg
  refine ⟨h1, Nat.le_trans h.base_le hg.size, fun j x hj => ?_, h2⟩
  obtain ⟨g, o, he, hc⟩ := h.rd j x hj
  have hgl := lt_of_cell hc
  refine ⟨g, o, he, ?_⟩
  injection he with he
  injection he with he1 _
  rw [World.cell?_of_block (hg.block g hgl (fun e' => by have := (World.ownsRow.lt hp2 g e'.symm).1; omega))]
  exact hc
theorem own_zero {w : World} {base g off n c : Nat} {l : List Int} (h : OwnZ w base (.slice (some ⟨g, off, none⟩) n c) l) : off = 0 := by
  rcases h.2 with ⟨h1, _⟩ | ⟨g', cap, cur, h1, _⟩
  · cases h1
  · cases h1; rfl
theorem decS_bad {C : List Nat} (h : badC C) : decS C = ([], 11) := by unfold decS; rw [if_pos h]
theorem decS_none {C : List Nat} (h : readS (C.getD 0 0) [] (bytesC (C.drop (fromN C))) = none) : decS C = ([], 11) := by
  unfold decS
  split
  · rfl
  · rw [h]

end Go.Proofs.Ytkjimgidlpocbaa

namespace Go.Proofs.Ytkjimgidlpocbaa
open Go.RowKit

theorem own_set {w : World} {base : Nat} {e : TypeId} {size n : Nat} {xs : List Value} {g cap : Nat} (h : w.ownsRow base e size (.slice (some ⟨g, 0, none⟩) n cap) n xs) {i : Nat} (hi : i < n * size) (u : Value) :
    (∃ x, xs[i]? = some x ∧ w.cell? ⟨g, i, none⟩ = some x) ∧ w.frozen? ⟨g, i, none⟩ = false ∧ (w.setCell ⟨g, i, none⟩ u).ownsRow base e size (.slice (some ⟨g, 0, none⟩) n cap) n (xs.set i u) := by
  obtain ⟨h0, ⟨h, _⟩ | ⟨g', cap', cur, k1, k2, k3, k4, k5, k6, k7⟩⟩ := h
  · cases h
  · cases k1
    have hlt : i < xs.length := by omega
    have hc : cur.toList[i]? = xs[i]? := by rw [← k7, List.getElem?_take, if_pos hi]
    refine ⟨⟨xs[i], List.getElem?_eq_getElem hlt, ?_⟩, ?_, by rw [List.length_set]; exact h0, .inr ⟨g, cap, cur.setIfInBounds i u, rfl, k2, ?_, k4, k5, by simpa using k6, ?_⟩⟩
    · rw [cell_at k3 i, ← List.getElem?_eq_getElem hlt, ← hc]
      simp
    · exact free_at k3 i
    · rw [heap_setCell_same _ _ _ _ _ _ k3]
    · rw [Array.toList_setIfInBounds, List.take_set, k7]
end Go.Proofs.Ytkjimgidlpocbaa

namespace Go.Proofs.Ytkjimgidlpocbaa
open Go.RowKit

/-- Ints behind ints, wherever they are read. -/
theorem append_zs {w W : World} {ops : Array Oper} {rest : List Oper} {o : Oper} {a : Act} {Q : Exit → Act → World → Prop} (hgd : o.guard = none) (s x : Operand) (hop : o.op = .call { callee := .builtin .append, args := #[s, x], argTypes := #[35, 35] })
    (v : Value) (A B : List Int) (hs : a.eval s = v) (hlow : Below W.heap.size W w) (hown : OwnZ w W.heap.size v A) (oa : Option Addr) (c n : Nat) (hn : B.length = n) (hx : a.eval x = .slice oa n c) (hB : ReadZ w oa B) (h0 : oa = none → c = 0) (hc : n ≤ c) (hl : A.length + n ≤ 1000000)
    (h : ∀ v' w', OwnZ w' W.heap.size v' (A ++ B) ∧ Below W.heap.size W w' → w.grownBy w' v.ownBlock → wpList Try.prog ops Q rest (a.put o.dst v') w') : wpList Try.prog ops Q (o :: rest) a w := by
  obtain ⟨i0, hi, hz0, hz1, hz2⟩ := info_parts info_z
  subst hn
  cases oa with
  | none =>
    have hc0 := h0 rfl
    have hB0 : B = [] := List.eq_nil_of_length_eq_zero (by omega)
    subst hB0 hc0
    exact wpList_append_own_none hgd s x 35 hop W.heap.size 3 i0 1 Try.underlying35 hi v A.length (zC A) hs hown hx (h v w (by rw [List.append_nil]; exact ⟨hown, hlow⟩) (World.grownBy.refl w _))
  | some ad =>
    refine wpList_append_own w hgd s x 35 hop W.heap.size 3 i0 _ 1 8 Try.underlying35 hi hz0 hz1 hz2 rfl (by decide) v A.length (zC A) hs hown ad B.length c (zC B) hx (by rw [zC_length, Nat.mul_one]) hB.cells (zC_one B) (by unfold maxLen; omega) (by omega) hlow.size ?_
    intro v' w' ho hg _
    exact h v' w' (OwnZ.more0 hlow.size hlow hown ho hg) hg
/-- What is copied so far. -/
structure CpI (W : World) (g0 N i : Nat) (l : List En) (xs : List Value) (w : World) : Prop where
  own : w.ownsRow W.heap.size 51 2 (.slice (some ⟨g0, 0, none⟩) N N) N xs
  got : ∀ (j : Nat) (e : En), j < i → l[j]? = some e → xs[j * 2]? = some (.int .i64 e.1) ∧ ∃ u, xs[j * 2 + 1]? = some u ∧ OwnZ w W.heap.size u e.2
  low : Below W.heap.size W w
theorem own_heap {w : World} {base size n g cap : Nat} {e : TypeId} {xs : List Value} (h : w.ownsRow base e size (.slice (some ⟨g, 0, none⟩) n cap) n xs) : ∃ c, w.heap[g]? = some (.cells c e (0, 0)) ∧ base ≤ g := by
  rcases h.2 with ⟨h1, _⟩ | ⟨g', cap', cur, h1, h2, h3, _⟩
  · cases h1
  · cases h1
    exact ⟨cur, h3, h2⟩

theorem own_turn2 {w w3 : World} {base n size : Nat} {e : TypeId} {v v2 : Value} {xs : List Value} (h : w.ownsRow base e size v n xs) (o : Obj) (hg : (w.alloc o).grownBy w3 v2.ownBlock) (hne : ∀ k, v2.ownBlock = some k → v.ownBlock = some k → False) : w3.ownsRow base e size v n xs := by
  refine (World.ownsRow.alloc h o).kept hg ?_
  cases hb : v.ownBlock with
  | none =>
    rcases h.2 with ⟨rfl, _⟩ | ⟨g, cap, cur, rfl, _⟩
    · exact .inl rfl
    · simp [Value.ownBlock] at hb
  | some k => exact .inr fun e => hne k (by rw [← e]) hb
end Go.Proofs.Ytkjimgidlpocbaa

namespace Go.Proofs.Ytkjimgidlpocbaa
open Go.RowKit

theorem drewN_add (w : World) (a b : Nat) : (w.drewN a).drewN b = w.drewN (a + b) := by simp [World.drewN, Nat.add_assoc]
set_option maxRecDepth 100000 in
set_option maxHeartbeats 8000000 in
theorem ref_same13 (w : World) (oa ob : Option Addr) (ca cb na nb : Nat) (A B : List En) (ea : A.length = na) (eb : B.length = nb) (ha : ReadE w oa A) (hb : ReadE w ob B) (hn : na ≤ 1000000) (hpa : ∀ e ∈ A, e.2.length ≤ 1000000) :
    Calls Try.prog 14 #[.slice oa na ca, .slice ob nb cb] w fun e w' => e = .returned (.bool (decide (A = B))) ∧ Below w.heap.size w w' := by
  have HA := Lib.hid ha
  have HB := Lib.hid hb
  have HPa := Lib.hid hpa
  have HNa := Lib.hid ea
  have HNb := Lib.hid eb
  clear ha hb hpa
  by_cases hl : na = nb
  · subst hl
    clear ea eb
    go_enter Try.func14, Try.ntmps14
    go_wp2_with fail
    go_loopw [14] (fun iv wr => ∃ i : Nat, i ≤ na ∧ iv = .int .i64 (i : Int) ∧ Hid (A.take i = B.take i) ∧ ∃ m, wr = w.drewN m) (fun i _ => na - (intOf i).toNat)
    case atStart => exact ⟨0, by omega, rfl, Lib.hid rfl, 0, rfl⟩
    case round =>
      obtain ⟨i, hi, rfl, HT, m0, rfl⟩ := hrel
      by_cases hlt : i < na
      · have hlt1 : (i : Int) < (na : Int) := by omega
        obtain ⟨x, hx⟩ : ∃ x, A[i]? = some x := ⟨_, List.getElem?_eq_getElem (by rw [HNa.out]; exact hlt)⟩
        obtain ⟨y, hy⟩ : ∃ y, B[i]? = some y := ⟨_, List.getElem?_eq_getElem (by rw [HNb.out]; exact hlt)⟩
        obtain ⟨gx, ox, hoa, cx, p, cxp, pa, pac, rfl, _, _, _, rx⟩ := HA.out i x hx
        obtain ⟨gy, oy, hob, cy, p2, cyp, pb, pbc, rfl, _, _, _, ry⟩ := HB.out i y hy
        subst hoa hob
        have HX := Lib.hid (And.intro hx hy)
        have hpb := HPa.out x (List.mem_of_getElem? hx)
        obtain ⟨d, ps⟩ := x
        obtain ⟨d2, qs⟩ := y
        simp only at cx cxp cy cyp rx ry hpb
        obtain ⟨m, hm⟩ : ∃ m, ps.length = m := ⟨_, rfl⟩
        obtain ⟨m2, hm2⟩ : ∃ m, qs.length = m := ⟨_, rfl⟩
        rw [hm] at cxp hpb
        rw [hm2] at cyp
        have HM := Lib.hid (And.intro hm hm2)
        have HRx := Lib.hid rx
        have HRy := Lib.hid ry
        have HC := Lib.hid (And.intro cx (And.intro cxp (And.intro cy cyp)))
        obtain ⟨bb, hbb⟩ : ∃ bb : Bool, bb = decide (d ≠ d2 ∨ m ≠ m2) := ⟨_, rfl⟩
        have c1 : w.cell? ⟨gx, ox + i * 2, none⟩ = some (.int .i64 d) := cx
        have c2 : w.cell? ⟨gx, ox + i * 2 + 1, none⟩ = some (.slice pa m pac) := cxp
        have c3 : w.cell? ⟨gy, oy + i * 2, none⟩ = some (.int .i64 d2) := cy
        have c4 : w.cell? ⟨gy, oy + i * 2 + 1, none⟩ = some (.slice pb m2 pbc) := cyp
        clear hx hy hm hm2 rx ry cx cxp cy cyp
        go_upto_region 6 with fail
        go_cut [42] from 17 to 42 (fun cv wx => cv = .bool bb ∧ ∃ t, wx = w.drewN t)
        case first =>
          by_cases hd : d = d2
          · subst hd
            have hdb : ((d : Int) != d) = false := by simp
            by_cases hmm : m = m2
            · subst hmm
              have hmb : ((m : Int) != (m : Int)) = false := by simp
              go_big_quiet (fail)
              go_wp2_with fail
              go_meet
              case rel => exact ⟨congrArg Value.bool (show false = bb from by rw [hbb]; simp), _, rfl⟩
            · have hmb : ((m : Int) != (m2 : Int)) = true := bne_iff_ne.2 (by omega)
              go_big_quiet (fail)
              go_wp2_with fail
              go_meet
              case rel => exact ⟨congrArg Value.bool (show true = bb from by rw [hbb]; simp <;> omega), _, rfl⟩
          · have hdb : ((d : Int) != d2) = true := bne_iff_ne.2 hd
            go_big_quiet (fail)
            go_wp2_with fail
            go_meet
            case rel => exact ⟨congrArg Value.bool (show true = bb from by rw [hbb]; simp [hd]), _, rfl⟩
        case rest =>
          obtain ⟨rfl, t, rfl⟩ := hcut
          clear c1 c2 c3 c4
          have c2 : w.cell? ⟨gx, ox + i * 2 + 1, none⟩ = some (.slice pa m pac) := HC.out.2.1
          have c4 : w.cell? ⟨gy, oy + i * 2 + 1, none⟩ = some (.slice pb m2 pbc) := HC.out.2.2.2
          cases bb with
          | true =>
            have HNe := Lib.hid (show A ≠ B from fun e => by
              have h1 := HX.out.1
              rw [e, HX.out.2] at h1
              injection h1 with h1
              injection h1 with h1 h2
              rcases of_decide_eq_true hbb.symm with h | h
              · exact h h1.symm
              · exact h (by rw [← HM.out.1, ← HM.out.2, h2]))
            clear hbb
            go_wp2_with fail
            go_ret
            exact ⟨by simp [HNe.out], below_drawn (Below.refl _ _) _⟩
          | false =>
            have h7 := of_decide_eq_false hbb.symm
            obtain rfl : d = d2 := by
              by_cases h : d = d2
              · exact h
              · exact absurd (.inl h) h7
            obtain rfl : m = m2 := by
              by_cases h : m = m2
              · exact h
              · exact absurd (.inr h) h7
            clear hbb h7
            go_wp2_with fail
            go_loopw [49] (fun kv wr => ∃ k : Nat, k ≤ m ∧ kv = .int .i64 (k : Int) ∧ Hid (ps.take k = qs.take k) ∧ ∃ t, wr = w.drewN t) (fun k _ => m - (intOf k).toNat)
            case atStart => exact ⟨0, by omega, rfl, Lib.hid rfl, t, rfl⟩
            case round =>
              obtain ⟨k, hk, rfl, HT2, t3, rfl⟩ := hrel
              clear c2 c4
              have c2 : w.cell? ⟨gx, ox + i * 2 + 1, none⟩ = some (.slice pa m pac) := HC.out.2.1
              have c4 : w.cell? ⟨gy, oy + i * 2 + 1, none⟩ = some (.slice pb m pbc) := HC.out.2.2.2
              by_cases hkm : k < m
              · have hkm1 : (k : Int) < (m : Int) := by omega
                obtain ⟨u, hu⟩ : ∃ u, ps[k]? = some u := ⟨_, List.getElem?_eq_getElem (by rw [HM.out.1]; exact hkm)⟩
                obtain ⟨v, hv⟩ : ∃ v, qs[k]? = some v := ⟨_, List.getElem?_eq_getElem (by rw [HM.out.2]; exact hkm)⟩
                obtain ⟨gu, ou, hpu, cu⟩ := HRx.out k u hu
                obtain ⟨gv, ov, hpv, cv⟩ := HRy.out k v hv
                subst hpu hpv
                have HU := Lib.hid (And.intro hu hv)
                have cu2 : w.cell? ⟨gu, ou + k, none⟩ = some (.int .i64 u) := cu
                have cv2 : w.cell? ⟨gv, ov + k, none⟩ = some (.int .i64 v) := cv
                clear hu hv cu cv
                obtain ⟨cc, hcc⟩ : ∃ cc : Bool, cc = decide (u ≠ v) := ⟨_, rfl⟩
                go_upto_region 11 with fail
                go_cut [68] from 52 to 68 (fun cv wx => cv = .bool cc ∧ ∃ t, wx = w.drewN t)
                case first =>
                  by_cases huv : u = v
                  · subst huv
                    have hub : ((u : Int) != u) = false := by simp
                    go_big_quiet (fail)
                    go_wp2_with fail
                    go_meet
                    case rel => exact ⟨congrArg Value.bool (show false = cc from by rw [hcc]; simp), _, drewN_add _ _ _⟩
                  · have hub : ((u : Int) != v) = true := bne_iff_ne.2 huv
                    go_big_quiet (fail)
                    go_wp2_with fail
                    go_meet
                    case rel => exact ⟨congrArg Value.bool (show true = cc from by rw [hcc]; simp [huv]), _, drewN_add _ _ _⟩
                case rest =>
                  obtain ⟨rfl, t4, rfl⟩ := hcut
                  cases cc with
                  | true =>
                    have HNe := Lib.hid (show A ≠ B from fun e => by
                      have h1 := HX.out.1
                      rw [e, HX.out.2] at h1
                      injection h1 with h1
                      injection h1 with h1 h2
                      have h3 := HU.out.1
                      rw [← h2, HU.out.2] at h3
                      injection h3 with h3
                      exact of_decide_eq_true hcc.symm h3.symm)
                    clear hcc
                    go_wp2_with fail
                    go_ret
                    exact ⟨by simp [HNe.out], below_drawn (Below.refl _ _) _⟩
                  | false =>
                    have huv : u = v := by
                      by_cases h : u = v
                      · exact h
                      · exact absurd h (of_decide_eq_false hcc.symm)
                    have HNx := Lib.hid (show ps.take (k + 1) = qs.take (k + 1) by rw [List.take_add_one, List.take_add_one, HU.out.1, HU.out.2, HT2.out, huv])
                    clear hcc huv
                    go_wp2_with fail
                    go_roundw
                    case rel => exact ⟨k + 1, by omega, by go_num, HNx, _, rfl⟩
                    case measure => simp [intOf]; omega
              · obtain rfl : k = m := by omega
                have HNx := Lib.hid (show A.take (i + 1) = B.take (i + 1) by
                  have h1 := HT2.out
                  rw [List.take_of_length_le (by have := HM.out.1; omega), List.take_of_length_le (by have := HM.out.2; omega)] at h1
                  rw [List.take_add_one, List.take_add_one, HX.out.1, HX.out.2, HT.out, h1])
                go_wp2_with fail
                go_roundw
                case rel => exact ⟨i + 1, by omega, by go_num, HNx, _, rfl⟩
                case measure => simp [intOf]; omega
      · go_wp2_with fail
        go_ret
        have : A = B := by
          have := HT.out
          rwa [List.take_of_length_le (by have := HNa.out; omega), List.take_of_length_le (by have := HNb.out; omega)] at this
        exact ⟨by simp [this], below_drawn (Below.refl _ _) _⟩
  · have hI : ((na : Int) != (nb : Int)) = true := bne_iff_ne.2 (by omega)
    have HD := Lib.hid (show A ≠ B from fun e => hl (by rw [← ea, ← eb, e]))
    clear hl ea eb
    go_enter Try.func14, Try.ntmps14
    go_wp2_with fail
    go_ret
    exact ⟨by simp [HD.out], Below.refl _ _⟩
end Go.Proofs.Ytkjimgidlpocbaa

namespace Go.Proofs.Ytkjimgidlpocbaa
open Go.RowKit

end Go.Proofs.Ytkjimgidlpocbaa

namespace Go.Proofs.Ytkjimgidlpocbaa
open Go.RowKit

/-! ### The contracts -/
def EncAt (f : Nat) (N n : Nat) (l : List En) (X : List Nat) (er : Int) : Prop := ∀ (w : World) (oa : Option Addr) (c : Nat), ReadE w oa l → N ≤ c → Calls Try.prog f #[.slice oa N c] w fun e w' => ∃ ob d, e = .returned (.tuple #[.slice ob n d, .int .i64 er]) ∧ n ≤ d ∧ d ≤ maxLen ∧ ReadN .u32 w' ob X ∧ Below w.heap.size w w'
theorem ref_enc_of {N n : Nat} {l : List En} {X : List Nat} {er : Int} (en : l.length = N) (hl : N ≤ 100000) (hE : encE l = er) (hX : encX l = X) (hn : X.length = n) : EncAt 41 N n l X er := by
  intro w oa c ha hc
  subst hE hX
  refine (ref_encode13 w oa c N l en ha hl).mono fun _ _ ⟨v, h1, h2, h3⟩ => ?_
  obtain ⟨ob, d, rfl, h4, h5, _, h6⟩ := h2.reads_of n hn
  exact ⟨ob, d, h1, h4, h5, h6, h3⟩
def DecAt (f : Nat) (N n : Nat) (C : List Nat) (l : List En) (er : Int) : Prop := ∀ (w : World) (oa : Option Addr) (c : Nat), ReadN .u32 w oa C → N ≤ c → c ≤ maxLen → Calls Try.prog f #[.slice oa N c] w fun e w' => ∃ ob d, e = .returned (.tuple #[.slice ob n d, .int .i64 er]) ∧ n ≤ d ∧ d ≤ maxLen ∧ ReadE w' ob l ∧ Below w.heap.size w w'
theorem same13_eq (w : World) (oa ob : Option Addr) (ca cb n : Nat) (A : List En) (ea : A.length = n) (ha : ReadE w oa A) (hb : ReadE w ob A) (hn : n ≤ 1000000) (hpa : ∀ e ∈ A, e.2.length ≤ 1000000) :
    Calls Try.prog 14 #[.slice oa n ca, .slice ob n cb] w fun e w' => e = .returned (.bool true) ∧ Below w.heap.size w w' := by
  refine (ref_same13 w oa ob ca cb n n A A ea ea ha hb hn hpa).mono fun _ _ ⟨h1, h2⟩ => ⟨?_, h2⟩
  rw [h1, decide_eq_true rfl]
theorem same32_eq (w : World) (oa ob : Option Addr) (ca cb n : Nat) (A : List Nat) (ea : A.length = n) (ha : ReadN .u32 w oa A) (hb : ReadN .u32 w ob A) (hn : n ≤ 1000000) :
    Calls Try.prog 16 #[.slice oa n ca, .slice ob n cb] w fun e w' => e = .returned (.bool true) ∧ Below w.heap.size w w' := by
  refine (same32_at w oa ob ca cb n n A A ea ea ha hb hn).mono fun _ _ ⟨h1, h2⟩ => ⟨?_, h2⟩
  rw [h1, decide_eq_true rfl]

/-! ### More than is gone through? -/
def sumP : List En → Nat
  | [] => 0
  | e :: l => e.2.length + sumP l
theorem sumP_append : ∀ (l m : List En), sumP (l ++ m) = sumP l + sumP m
  | [], m => by simp [sumP]
  | e :: l, m => by simp only [List.cons_append, sumP, sumP_append l m]; omega
theorem sumP_take (l : List En) (n : Nat) : sumP (l.take n) ≤ sumP l := by
  have := sumP_append (l.take n) (l.drop n)
  rw [List.take_append_drop] at this
  omega
theorem sumP_mem : ∀ {l : List En} {e : En}, e ∈ l → e.2.length ≤ sumP l
  | x :: l, e, h => by
    simp only [sumP]
    rcases List.mem_cons.1 h with rfl | h
    · omega
    · have := sumP_mem h
      omega
def greatB (l : List En) : Bool := decide (100 < l.length ∨ 3000 < sumP l)
theorem great_no {l : List En} (h : greatB l = false) : l.length ≤ 100 ∧ ∀ e ∈ l, e.2.length ≤ 3000 := by
  have h := of_decide_eq_false h
  refine ⟨by omega, fun e he => ?_⟩
  have := sumP_mem he
  omega

/-! ### The chapter's examples -/
end Go.Proofs.Ytkjimgidlpocbaa

namespace Go.Proofs.Ytkjimgidlpocbaa
open Go.RowKit

theorem drewN_add15 (w : World) (a b : Nat) : (w.drewN a).drewN b = w.drewN (a + b) := by simp [World.drewN, Nat.add_assoc]
theorem key_drop {s : ByteArray} {i : Nat} (h : i < s.size) : (keyN s).drop i = (s[i]'h).toNat :: (keyN s).drop (i + 1) := by
  have hl : i < (keyN s).length := by unfold keyN; simpa using h
  rw [List.drop_eq_getElem_cons hl]
  congr 1
  simp [keyN]
  rfl
theorem key_len (s : ByteArray) : (keyN s).length = s.size := by simp [keyN]
theorem lessN_end : ∀ (x y : List Nat), (x = [] ∨ y = []) → lessN x y = decide (x.length < y.length)
  | [], [], _ => rfl
  | [], _ :: _, _ => by simp [lessN]
  | _ :: _, [], _ => by simp [lessN]
  | a :: x, b :: y, h => by rcases h with h | h <;> cases h
set_option maxRecDepth 100000 in
set_option maxHeartbeats 4000000 in
theorem ref_less (W : World) (a b : ByteArray) (ha : a.size ≤ reachBytes) (hb : b.size ≤ reachBytes) : Calls Try.prog 53 #[.string a, .string b] W fun e w' => e = .returned (.bool (lessN (keyN a) (keyN b))) ∧ ∃ t, w' = W.drewN t := by
  have hab : a.size ≤ 281474976710656 ∧ b.size ≤ 281474976710656 := by unfold reachBytes at ha hb; omega
  clear ha hb
  go_enter Try.func53, Try.ntmps53
  go_wp2_with fail
  go_loopw [5] (fun iv wr => ∃ n : Nat, n ≤ a.size ∧ iv = .int .i64 (n : Int) ∧ Hid (lessN ((keyN a).drop n) ((keyN b).drop n) = lessN (keyN a) (keyN b)) ∧ ∃ t, wr = W.drewN t) (fun iv _ => a.size - (intOf iv).toNat)
  case atStart => exact ⟨0, by omega, rfl, Lib.hid (by rw [List.drop_zero, List.drop_zero]), 0, rfl⟩
  case round =>
    obtain ⟨n, hn, rfl, HR, t, rfl⟩ := hrel
    by_cases h1 : n < a.size
    · have h1i : (n : Int) < (a.size : Int) := by omega
      by_cases h2 : n < b.size
      · have h2i : (n : Int) < (b.size : Int) := by omega
        have hst := HR.out
        rw [key_drop h1, key_drop h2, lessN_cons] at hst
        by_cases he : (a[n]'h1).toNat = (b[n]'h2).toNat
        · have HNx := Lib.hid (show lessN ((keyN a).drop (n + 1)) ((keyN b).drop (n + 1)) = lessN (keyN a) (keyN b) by
            rw [← hst, he]
            simp)
          have hne : (((a[n]'h1).toNat : Int) != ((b[n]'h2).toNat : Int)) = false := by rw [he]; simp
          obtain ⟨xa, hxa⟩ : ∃ x, (a[n]'h1).toNat = x := ⟨_, rfl⟩
          obtain ⟨xb, hxb⟩ : ∃ x, (b[n]'h2).toNat = x := ⟨_, rfl⟩
          rw [hxa, hxb] at hne
          clear he hst
          go_wp2_with fail
          refine wp_region_cl (fun (p : Unit) jz => [.string a, .int .i64 (n : Int), .int .u8 (xa : Int), .string b, .int .i64 (n : Int), .int .u8 (xb : Int), .bool false].getD jz undef)
            (fun p l wx => wx = (W.drewN t).drew)
            (by kernel_rfl) (by kernel_rfl) (fun q => by simp only [putTo, dstOf, Act.put, List.size_toArray, List.length_cons, List.length_nil, List.getElem?_toArray, Nat.reduceAdd, Option.bind_some, List.getElem?_cons_zero, List.getElem?_cons_succ, List.setIfInBounds_toArray, List.set_cons_zero, List.set_cons_succ, List.getD_cons_zero, List.getD_cons_succ]; exact rfl) () ?_ ?_ ?_
          · rfl
          · intro i o ho p l wx hR hl he hcl K hK
            rcases i with _ | _ | _ | _ | _ | _ | _ | i
            · obtain rfl : _ = o := Option.some.inj ho
              subst hR
              go_simp
              exact hK p _ (fun _ _ => rfl) rfl
            · obtain rfl : _ = o := Option.some.inj ho
              subst hR
              go_simp
              exact hK p _ (fun _ _ => rfl) rfl
            · obtain rfl : _ = o := Option.some.inj ho
              subst hR
              go_simp
              exact hK p _ (fun _ _ => rfl) rfl
            · obtain rfl : _ = o := Option.some.inj ho
              subst hR
              go_simp
              exact hK p _ (fun _ _ => rfl) rfl
            · obtain rfl : _ = o := Option.some.inj ho
              subst hR
              go_simp
              exact hK p _ (fun _ _ => rfl) rfl
            · obtain rfl : _ = o := Option.some.inj ho
              subst hR
              go_simp
              exact hK p _ (fun _ _ => rfl) rfl
            · obtain rfl : _ = o := Option.some.inj ho
              subst hR
              go_simp
              exact hK p _ (fun _ _ => rfl) rfl
            · simp at ho
          · intro p l wx hl hR
            subst hR
            clear hl
            have hd : (W.drewN t).drew = W.drewN (t + 1) := by simp [World.drewN, World.drew, Nat.add_assoc]
            rw [hd]
            go_wp2_with fail
            go_roundw
            case rel => exact ⟨n + 1, by omega, by go_num, HNx, _, rfl⟩
            case measure => simp [intOf]; omega
        · have HRes := Lib.hid (show lessN (keyN a) (keyN b) = decide (((a[n]'h1).toNat : Int) < ((b[n]'h2).toNat : Int)) by
            rw [← hst, beq_eq_false_iff_ne.2 he, Bool.false_and, Bool.or_false, decide_eq_decide]
            omega)
          have hne : (((a[n]'h1).toNat : Int) != ((b[n]'h2).toNat : Int)) = true := bne_iff_ne.2 (by omega)
          obtain ⟨xa, hxa⟩ : ∃ x, (a[n]'h1).toNat = x := ⟨_, rfl⟩
          obtain ⟨xb, hxb⟩ : ∃ x, (b[n]'h2).toNat = x := ⟨_, rfl⟩
          rw [hxa, hxb] at hne HRes
          obtain ⟨bb, hbb1⟩ : ∃ bb, decide ((xa : Int) < (xb : Int)) = bb := ⟨_, rfl⟩
          rw [hbb1] at HRes
          have hbb2 : decide (xa < xb) = bb := by rw [← hbb1, decide_eq_decide]; omega
          clear he hst
          go_wp2_with fail
          refine wp_region_cl (fun (p : Unit) jz => [.string a, .int .i64 (n : Int), .int .u8 (xa : Int), .string b, .int .i64 (n : Int), .int .u8 (xb : Int), .bool true].getD jz undef)
            (fun p l wx => wx = (W.drewN t).drew)
            (by kernel_rfl) (by kernel_rfl) (fun q => by simp only [putTo, dstOf, Act.put, List.size_toArray, List.length_cons, List.length_nil, List.getElem?_toArray, Nat.reduceAdd, Option.bind_some, List.getElem?_cons_zero, List.getElem?_cons_succ, List.setIfInBounds_toArray, List.set_cons_zero, List.set_cons_succ, List.getD_cons_zero, List.getD_cons_succ]; exact rfl) () ?_ ?_ ?_
          · rfl
          · intro i o ho p l wx hR hl he hcl K hK
            rcases i with _ | _ | _ | _ | _ | _ | _ | i
            · obtain rfl : _ = o := Option.some.inj ho
              subst hR
              go_simp
              exact hK p _ (fun _ _ => rfl) rfl
            · obtain rfl : _ = o := Option.some.inj ho
              subst hR
              go_simp
              exact hK p _ (fun _ _ => rfl) rfl
            · obtain rfl : _ = o := Option.some.inj ho
              subst hR
              go_simp
              exact hK p _ (fun _ _ => rfl) rfl
            · obtain rfl : _ = o := Option.some.inj ho
              subst hR
              go_simp
              exact hK p _ (fun _ _ => rfl) rfl
            · obtain rfl : _ = o := Option.some.inj ho
              subst hR
              go_simp
              exact hK p _ (fun _ _ => rfl) rfl
            · obtain rfl : _ = o := Option.some.inj ho
              subst hR
              go_simp
              exact hK p _ (fun _ _ => rfl) rfl
            · obtain rfl : _ = o := Option.some.inj ho
              subst hR
              go_simp
              exact hK p _ (fun _ _ => rfl) rfl
            · simp at ho
          · intro p l wx hl hR
            subst hR
            clear hl
            have hd : (W.drewN t).drew = W.drewN (t + 1) := by simp [World.drewN, World.drew, Nat.add_assoc]
            rw [hd]
            go_wp2_with fail
            refine wp_region_cl (fun (p : Unit) jz => [.string a, .int .i64 (n : Int), .int .u8 (xa : Int), .string b, .int .i64 (n : Int), .int .u8 (xb : Int), .bool bb, .bool bb].getD jz undef)
              (fun p l wx => wx = (W.drewN (t + 1)).drew)
              (by kernel_rfl) (by kernel_rfl) (fun q => by simp only [putTo, dstOf, Act.put, List.size_toArray, List.length_cons, List.length_nil, List.getElem?_toArray, Nat.reduceAdd, Option.bind_some, List.getElem?_cons_zero, List.getElem?_cons_succ, List.setIfInBounds_toArray, List.set_cons_zero, List.set_cons_succ, List.getD_cons_zero, List.getD_cons_succ]; exact rfl) () ?_ ?_ ?_
            · rfl
            · intro i o ho p l wx hR hl he hcl K hK
              rcases i with _ | _ | _ | _ | _ | _ | _ | _ | i
              · obtain rfl : _ = o := Option.some.inj ho
                subst hR
                go_simp
                exact hK p _ (fun _ _ => rfl) rfl
              · obtain rfl : _ = o := Option.some.inj ho
                subst hR
                go_simp
                exact hK p _ (fun _ _ => rfl) rfl
              · obtain rfl : _ = o := Option.some.inj ho
                subst hR
                go_simp
                exact hK p _ (fun _ _ => rfl) rfl
              · obtain rfl : _ = o := Option.some.inj ho
                subst hR
                go_simp
                exact hK p _ (fun _ _ => rfl) rfl
              · obtain rfl : _ = o := Option.some.inj ho
                subst hR
                go_simp
                exact hK p _ (fun _ _ => rfl) rfl
              · obtain rfl : _ = o := Option.some.inj ho
                subst hR
                go_simp
                exact hK p _ (fun _ _ => rfl) rfl
              · obtain rfl : _ = o := Option.some.inj ho
                subst hR
                go_simp
                exact hK p _ (fun _ _ => rfl) rfl
              · obtain rfl : _ = o := Option.some.inj ho
                subst hR
                go_simp
                exact hK p _ (fun _ _ => rfl) rfl
              · simp at ho
            · intro p l wx hl hR
              subst hR
              clear hl
              go_wp2_with fail
              go_ret
              exact ⟨by rw [HRes.out]; rfl, t + 2, by simp [World.drewN, World.drew, Nat.add_assoc]⟩
      · have h2i : ¬ (n : Int) < (b.size : Int) := by omega
        have HRes := Lib.hid (show lessN (keyN a) (keyN b) = decide ((a.size : Int) < (b.size : Int)) by
          rw [← HR.out, lessN_end _ _ (.inr (List.drop_eq_nil_of_le (by rw [key_len]; omega))), decide_eq_decide, List.length_drop, List.length_drop, key_len, key_len]
          omega)
        obtain ⟨bb, hbb⟩ : ∃ bb, decide ((a.size : Int) < (b.size : Int)) = bb := ⟨_, rfl⟩
        rw [hbb] at HRes
        have hbb2 : decide (a.size < b.size) = bb := by rw [← hbb, decide_eq_decide]; omega
        go_wp2_with fail
        go_ret
        refine ⟨?_, t, rfl⟩
        rw [HRes.out]
        first | rfl | (rw [← hbb]; rfl) | (rw [← hbb2]; rfl)
    · have h1i : ¬ (n : Int) < (a.size : Int) := by omega
      have HRes := Lib.hid (show lessN (keyN a) (keyN b) = decide ((a.size : Int) < (b.size : Int)) by
        rw [← HR.out, lessN_end _ _ (.inl (List.drop_eq_nil_of_le (by rw [key_len]; omega))), decide_eq_decide, List.length_drop, List.length_drop, key_len, key_len]
        omega)
      obtain ⟨bb, hbb⟩ : ∃ bb, decide ((a.size : Int) < (b.size : Int)) = bb := ⟨_, rfl⟩
      rw [hbb] at HRes
      have hbb2 : decide (a.size < b.size) = bb := by rw [← hbb, decide_eq_decide]; omega
      go_wp2_with fail
      go_ret
      refine ⟨?_, t, rfl⟩
      rw [HRes.out]
      first | rfl | (rw [← hbb]; rfl) | (rw [← hbb2]; rfl)
theorem eq_row (a b c d : Int) (w : World) : (Op.equalIn 10000 54 (.agg #[.int .u32 a, .int .u32 b, .int .u32 c, .int .u32 d]) (.agg #[.int .u32 a, .int .u32 b, .int .u32 c, .int .u32 d])).run Try.prog w = .ok true w := by
  have u3 := Try.underlying52
  have a3 := Try.isAgg52
  have z3 := Try.sizeOf52
  have hS : Try.prog.underlying 54 = some (.struct (Try.prog.fieldsOf 54)) := by kernel_rfl
  rw [show (10000 : Nat) = 9999 + 1 from rfl, run_equalIn_agg w 9999 54 _ _ hS (by kernel_rfl)]
  simp only [Program.fieldsOf, Try.underlying54]
  go_simp
theorem row_cells {w : World} {oa : Option Addr} {F : List Nat} {n i : Nat} (hF : F.length = 4 * n) (h : ReadN .u32 w oa F) (hi : i < n) : ∃ g o a b c d : Nat, oa = some ⟨g, o, none⟩ ∧ (F[4 * i]? = some a ∧ F[4 * i + 1]? = some b ∧ F[4 * i + 2]? = some c ∧ F[4 * i + 3]? = some d) ∧ w.cell? ⟨g, o + i * 4, none⟩ = some (.int .u32 (a : Int)) ∧ w.cell? ⟨g, o + i * 4 + 1, none⟩ = some (.int .u32 (b : Int)) ∧ w.cell? ⟨g, o + i * 4 + 2, none⟩ = some (.int .u32 (c : Int)) ∧ w.cell? ⟨g, o + i * 4 + 3, none⟩ = some (.int .u32 (d : Int)) := by
  have f : ∀ k, k < 4 → ∃ x, F[4 * i + k]? = some x := fun k hk => ⟨_, List.getElem?_eq_getElem (by omega)⟩
  obtain ⟨a, fa⟩ := f 0 (by omega)
  obtain ⟨b, fb⟩ := f 1 (by omega)
  obtain ⟨c, fc⟩ := f 2 (by omega)
  obtain ⟨d, fd⟩ := f 3 (by omega)
  obtain ⟨g, o, rfl, ka⟩ := h _ _ fa
  obtain ⟨_, _, hq, kb⟩ := h _ _ fb
  injection hq with hq; injection hq with h1 h2; subst h1 h2
  obtain ⟨_, _, hq, kc⟩ := h _ _ fc
  injection hq with hq; injection hq with h1 h2; subst h1 h2
  obtain ⟨_, _, hq, kd⟩ := h _ _ fd
  injection hq with hq; injection hq with h1 h2; subst h1 h2
  refine ⟨g, o, a, b, c, d, rfl, ⟨fa, fb, fc, fd⟩, ?_, ?_, ?_, ?_⟩
  · rw [show o + i * 4 = o + (4 * i + 0) by omega]; exact ka
  · rw [show o + i * 4 + 1 = o + (4 * i + 1) by omega]; exact kb
  · rw [show o + i * 4 + 2 = o + (4 * i + 2) by omega]; exact kc
  · rw [show o + i * 4 + 3 = o + (4 * i + 3) by omega]; exact kd
end Go.Proofs.Ytkjimgidlpocbaa
