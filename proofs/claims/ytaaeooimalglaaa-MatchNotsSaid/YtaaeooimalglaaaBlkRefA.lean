/-
  The reference of layer 13: may a list be. Over the program's own text.
-/
import Derived.Test.YtaaeooimalglaaaEnts
import Derived.Test.YtaaeooimalglaaaBlkPure
import Derived.Test.YtaaeooimalglaaaRegion
import Derived.Test.YtaaeooimalglaaaRegionC
namespace Go.Proofs.Ytaaeooimalglaaa
open Go.RowKit

structure EntAt (w : World) (be : Nat) (d : Int) (pa : Option Addr) (m pc : Nat) : Prop where
  out : w.heap[be]? = some (.cells #[.int .i64 d, .slice pa m pc] 46 (0, 0))

set_option maxRecDepth 100000 in
set_option maxHeartbeats 16000000 in
theorem ref_may13 (W : World) (oa : Option Addr) (c N : Nat) (l : List En) (en : l.length = N) (ha : ReadE W oa l) (hl : N ≤ 1000000) :
    Calls Try.prog 17 #[.slice oa N c] W fun e w' => e = .returned (.bool (mayB l)) ∧ Below W.heap.size W w' := by
  by_cases h64 : 64 < N
  · have HB := Lib.hid (show mayB l = false from mayB_false fun h => by have := h.1; omega)
    have h64i : (64 : Int) < (N : Int) := by omega
    clear ha en
    go_enter Try.func17, Try.ntmps17
    go_wp2_with fail
    go_ret
    exact ⟨by rw [HB.out]; rfl, Below.refl _ _⟩
  have h64i : ¬ (64 : Int) < (N : Int) := by omega
  have HA := Lib.hid ha
  have HN := Lib.hid en
  clear ha en
  go_enter Try.func17, Try.ntmps17
  go_wp2_with fail
  go_loopw [11] (fun iv wr => ∃ i : Nat, i ≤ N ∧ iv = .int .i64 (i : Int) ∧ Below W.heap.size W wr ∧ Hid (∀ j, j < i → okE l j)) (fun iv _ => N - (intOf iv).toNat)
  case atStart => exact ⟨0, by omega, rfl, Below.refl _ _, Lib.hid fun j hj => absurd hj (by omega)⟩
  case round =>
    obtain ⟨i, hi, rfl, hlow, HR⟩ := hrel
    have HW := Lib.hid hlow
    clear hlow
    by_cases hlt : i < N
    · skip
      obtain ⟨e, he⟩ : ∃ e, l[i]? = some e := ⟨_, List.getElem?_eq_getElem (by rw [HN.out]; exact hlt)⟩
      obtain ⟨g, o, hoa, c0, p, c1, pa, pc, rfl, p1, p2, p3, p4⟩ := HA.out i e he
      subst hoa
      obtain ⟨d, ps⟩ := e
      simp only at c0 c1 p1 p4
      have hpl : (enAt l i).2 = ps := by rw [enAt_some he]
      have hdl : (l.map (·.1)).getD i 0 = d := by rw [doc_map, enAt_some he]
      obtain ⟨m, hm⟩ : ∃ m, ps.length = m := ⟨_, rfl⟩
      rw [hm] at c1 p1
      have HE := Lib.hid hpl
      have HDl := Lib.hid hdl
      have HM := Lib.hid hm
      have HP := Lib.hid p4
      have c0 := below_cell c0 HW.out
      have c1 := below_cell c1 HW.out
      have notok : ¬ okE l i → mayB l = false := fun h => mayB_false fun hM => h (hM.2 i (by rw [HN.out]; exact hlt))
      have HNot := Lib.hid notok
      have hlt1 : (i : Int) < (N : Int) := by omega
      have hi64 : i ≤ 64 := by omega
      clear he hpl hdl hm p4 notok
      go_wp2_with fail
      have HWa := Lib.hid (show Below W.heap.size W (wr.alloc (.cells #[.int .i64 d, .slice pa m pc] 46)) from low_new HW.out)
      have HEa := Lib.hid (show EntAt (wr.alloc (.cells #[.int .i64 d, .slice pa m pc] 46)) wr.heap.size d pa m pc from ⟨heap_alloc_new wr _⟩)
      obtain ⟨be, hbe⟩ : ∃ be, be = wr.heap.size := ⟨_, rfl⟩
      rw [← hbe] at HEa ⊢
      generalize wr.alloc (.cells #[.int .i64 d, .slice pa m pc] 46) = wa at HWa HEa ⊢
      have cb0 : wa.cell? ⟨be, 0, none⟩ = some (.int .i64 d) := cell_at HEa.out.out 0
      have cb1 : wa.cell? ⟨be, 1, none⟩ = some (.slice pa m pc) := cell_at HEa.out.out 1
      clear c0 c1 hbe
      obtain ⟨dp, hdp⟩ : ∃ dp : Int, 0 < i → (l.map (·.1)).getD (i - 1) 0 = dp := ⟨_, fun _ => rfl⟩
      obtain ⟨bb, hbb⟩ : ∃ bb : Bool, bb = decide (d < 0 ∨ 65535 < d ∨ (0 < i ∧ d ≤ dp) ∨ m = 0 ∨ 256 < m) := ⟨_, rfl⟩
      have cpp : ∀ i1, i = i1 + 1 → wa.cell? ⟨g, o + i1 * 2, none⟩ = some (.int .i64 dp) := fun i1 hi1 => by
        obtain ⟨g2, o2, hoa, cp0, _⟩ := HA.out i1 _ (enAt_lt (by rw [HN.out]; omega))
        injection hoa with hoa
        injection hoa with h1 h2
        subst h1 h2
        have := hdp (by omega)
        rw [doc_map, show i - 1 = i1 by omega] at this
        rw [this] at cp0
        exact below_cell cp0 HWa.out
      have HCpp := Lib.hid cpp
      have HDp := Lib.hid hdp
      clear cpp hdp
      go_upto_region 7 with fail
      go_cut [52] from 18 to 52 (fun cv wx => cv = .bool bb ∧ ∃ t, wx = wa.drewN t)
      case first =>
        by_cases hneg : d < 0
        · go_big_quiet (fail)
          go_wp2_with fail
          go_meet
          case rel => exact ⟨congrArg Value.bool (show true = bb from by rw [hbb]; simp <;> omega), _, rfl⟩
        by_cases hbig : 65535 < d
        · go_big_quiet (fail)
          go_wp2_with fail
          go_meet
          case rel => exact ⟨congrArg Value.bool (show true = bb from by rw [hbb]; simp <;> omega), _, rfl⟩
        by_cases hi0 : i = 0
        · subst hi0
          by_cases hz : m = 0
          · subst hz
            go_big_quiet (fail)
            go_wp2_with fail
            go_meet
            case rel => exact ⟨congrArg Value.bool (show true = bb from by rw [hbb]; simp <;> omega), _, rfl⟩
          have hz1 : ((m : Int) == 0) = false := beq_eq_false_iff_ne.2 (by omega)
          by_cases hlong : 256 < m
          · have hlong1 : (256 : Int) < (m : Int) := by omega
            go_big_quiet (fail)
            go_wp2_with fail
            go_meet
            case rel => exact ⟨congrArg Value.bool (show true = bb from by rw [hbb]; simp <;> omega), _, rfl⟩
          have hlong1 : ¬ (256 : Int) < (m : Int) := by omega
          go_big_quiet (fail)
          go_wp2_with fail
          go_meet
          case rel => exact ⟨congrArg Value.bool (show false = bb from by rw [hbb]; simp <;> omega), _, rfl⟩
        · obtain ⟨i1, hi1⟩ : ∃ i1, i = i1 + 1 := ⟨i - 1, by omega⟩
          have cp1 := HCpp.out i1 hi1
          have z1 : (i : Int) - 1 = (i1 : Int) := by omega
          have z2 : IntKind.i64.wrap (i1 : Int) = (i1 : Int) := IntWalk.i64_in _ (by omega)
          have z3 : (0 : Int) < (i : Int) := by omega
          have z4 : i1 < N := by omega
          have z5 : 0 < i := by omega
          clear hi1
          by_cases hle : d ≤ dp
          · go_big_quiet (fail)
            go_wp2_with fail
            go_meet
            case rel => exact ⟨congrArg Value.bool (show true = bb from by rw [hbb]; simp <;> omega), _, rfl⟩
          by_cases hz : m = 0
          · subst hz
            go_big_quiet (fail)
            go_wp2_with fail
            go_meet
            case rel => exact ⟨congrArg Value.bool (show true = bb from by rw [hbb]; simp <;> omega), _, rfl⟩
          have hz1 : ((m : Int) == 0) = false := beq_eq_false_iff_ne.2 (by omega)
          by_cases hlong : 256 < m
          · have hlong1 : (256 : Int) < (m : Int) := by omega
            go_big_quiet (fail)
            go_wp2_with fail
            go_meet
            case rel => exact ⟨congrArg Value.bool (show true = bb from by rw [hbb]; simp <;> omega), _, rfl⟩
          have hlong1 : ¬ (256 : Int) < (m : Int) := by omega
          go_big_quiet (fail)
          go_wp2_with fail
          go_meet
          case rel => exact ⟨congrArg Value.bool (show false = bb from by rw [hbb]; simp <;> omega), _, rfl⟩
      case rest =>
        obtain ⟨rfl, t, rfl⟩ := hcut
        have HWt := Lib.hid (below_drawn HWa.out t)
        have HEt := Lib.hid (show EntAt (wa.drewN t) be d pa m pc from ⟨HEa.out.out⟩)
        clear cb0 cb1
        generalize wa.drewN t = wt at HWt HEt ⊢
        have cb1 : wt.cell? ⟨be, 1, none⟩ = some (.slice pa m pc) := cell_at HEt.out.out 1
        cases bb with
        | true =>
          have HBad := Lib.hid (show mayB l = false from HNot.out fun h => by
            obtain ⟨⟨h1, h2, h3⟩, h4, h5, _⟩ := h
            rw [HDl.out] at h1 h2 h3
            rw [HE.out, HM.out] at h4 h5
            have h7 := of_decide_eq_true hbb.symm
            rcases h7 with h7 | h7 | ⟨h7, h8⟩ | h7 | h7
            · omega
            · omega
            · have := h3 h7
              rw [HDp.out h7] at this
              omega
            · omega
            · omega)
          clear hbb
          go_wp2_with fail
          go_ret
          exact ⟨by rw [HBad.out]; rfl, HWt.out⟩
        | false =>
          have h7 := of_decide_eq_false hbb.symm
          have HDoc := Lib.hid (show okP (l.map (·.1)) i from ⟨by rw [HDl.out]; omega, by rw [HDl.out]; omega, fun h0 => by rw [HDl.out, HDp.out h0]; omega⟩)
          have hmb : 1 ≤ m ∧ m ≤ 256 := by omega
          clear hbb h7
          go_wp2_with fail
          go_loopw [56] (fun kv wr => ∃ k : Nat, k ≤ m ∧ kv = .int .i64 (k : Int) ∧ Below W.heap.size W wr ∧ EntAt wr be d pa m pc ∧ Hid (∀ t, t < k → okP ps t)) (fun kv _ => m - (intOf kv).toNat)
          case atStart => exact ⟨0, by omega, rfl, HWt.out, HEt.out, Lib.hid fun t ht => absurd ht (by omega)⟩
          case round =>
            obtain ⟨k, hk, rfl, hw2, he2, HR2⟩ := hrel
            have HW2 := Lib.hid hw2
            have HE2 := Lib.hid he2
            clear cb1
            have cb1 : wr.cell? ⟨be, 1, none⟩ = some (.slice pa m pc) := cell_at he2.out 1
            clear hw2 he2
            by_cases hkm : k < m
            · have hkm1 : (k : Int) < (m : Int) := by omega
              obtain ⟨x, hx⟩ : ∃ x, ps[k]? = some x := ⟨_, List.getElem?_eq_getElem (by rw [HM.out]; exact hkm)⟩
              obtain ⟨gp, op, hpa, cx0⟩ := HP.out k x hx
              subst hpa
              have cx : wr.cell? ⟨gp, op + k, none⟩ = some (.int .i64 x) := below_cell cx0 HW2.out
              have HXe := Lib.hid (show ps.getD k 0 = x by rw [List.getD_eq_getElem?_getD, hx]; rfl)
              have HNot2 := Lib.hid (show ¬ okP ps k → mayB l = false from fun h => HNot.out fun hM => h (by have := hM.2.2.2; rw [HE.out] at this; exact this k (by rw [HM.out]; exact hkm)))
              obtain ⟨xp, hxp⟩ : ∃ xp : Int, 0 < k → ps.getD (k - 1) 0 = xp := ⟨_, fun _ => rfl⟩
              obtain ⟨cc, hcc⟩ : ∃ cc : Bool, cc = decide (x < 0 ∨ 65535 < x ∨ (0 < k ∧ x ≤ xp)) := ⟨_, rfl⟩
              have cp : ∀ k1, k = k1 + 1 → wr.cell? ⟨gp, op + k1, none⟩ = some (.int .i64 xp) := fun k1 hk1 => by
                obtain ⟨y, hy⟩ : ∃ y, ps[k1]? = some y := ⟨_, List.getElem?_eq_getElem (by rw [HM.out]; omega)⟩
                obtain ⟨g2, o2, hoa, cp0⟩ := HP.out k1 y hy
                injection hoa with hoa
                injection hoa with h1 h2
                subst h1 h2
                have := hxp (by omega)
                rw [show k - 1 = k1 by omega, List.getD_eq_getElem?_getD, hy] at this
                simp only [Option.getD_some] at this
                rw [this] at cp0
                exact below_cell cp0 HW2.out
              have HCp := Lib.hid cp
              have HXp := Lib.hid hxp
              clear hx hxp cx0 cp
              go_upto_region 12 with fail
              go_cut [90] from 59 to 90 (fun cv wx => cv = .bool cc ∧ ∃ t, wx = wr.drewN t)
              case first =>
                by_cases hneg : x < 0
                · go_big_quiet (fail)
                  go_wp2_with fail
                  go_meet
                  case rel => exact ⟨congrArg Value.bool (show true = cc from by rw [hcc]; simp <;> omega), _, rfl⟩
                by_cases hbig : 65535 < x
                · go_big_quiet (fail)
                  go_wp2_with fail
                  go_meet
                  case rel => exact ⟨congrArg Value.bool (show true = cc from by rw [hcc]; simp <;> omega), _, rfl⟩
                by_cases hk0 : k = 0
                · subst hk0
                  rw [Nat.add_zero] at cx
                  go_big_quiet (fail)
                  go_wp2_with fail
                  go_meet
                  case rel => exact ⟨congrArg Value.bool (show false = cc from by rw [hcc]; simp <;> omega), _, rfl⟩
                · obtain ⟨k1, hk1⟩ : ∃ k1, k = k1 + 1 := ⟨k - 1, by omega⟩
                  have cp1 := HCp.out k1 hk1
                  have z1 : (k : Int) - 1 = (k1 : Int) := by omega
                  have z2 : IntKind.i64.wrap (k1 : Int) = (k1 : Int) := IntWalk.i64_in _ (by omega)
                  have z3 : (0 : Int) < (k : Int) := by omega
                  have z4 : k1 < m := by omega
                  have z5 : 0 < k := by omega
                  clear hk1
                  by_cases hle : x ≤ xp
                  · go_big_quiet (fail)
                    go_wp2_with fail
                    go_meet
                    case rel => exact ⟨congrArg Value.bool (show true = cc from by rw [hcc]; simp <;> omega), _, rfl⟩
                  go_big_quiet (fail)
                  go_wp2_with fail
                  go_meet
                  case rel => exact ⟨congrArg Value.bool (show false = cc from by rw [hcc]; simp <;> omega), _, rfl⟩
              case rest =>
                obtain ⟨rfl, t2, rfl⟩ := hcut
                have HW3 := Lib.hid (below_drawn HW2.out t2)
                have HE3 := Lib.hid (show EntAt (wr.drewN t2) be d (some ⟨gp, op, none⟩) m pc from ⟨HE2.out.out⟩)
                clear cb1 cx
                generalize wr.drewN t2 = w3 at HW3 HE3 ⊢
                cases cc with
                | true =>
                  have HBad := Lib.hid (show mayB l = false from HNot2.out fun h => by
                    obtain ⟨h1, h2, h3⟩ := h
                    rw [HXe.out] at h1 h2 h3
                    have h7 := of_decide_eq_true hcc.symm
                    rcases h7 with h7 | h7 | ⟨h7, h8⟩
                    · omega
                    · omega
                    · have := h3 h7
                      rw [HXp.out h7] at this
                      omega)
                  clear hcc
                  go_wp2_with fail
                  go_ret
                  exact ⟨by rw [HBad.out]; rfl, HW3.out⟩
                | false =>
                  have h7 := of_decide_eq_false hcc.symm
                  have HNx := Lib.hid (show ∀ t, t < k + 1 → okP ps t from fun t ht => by
                    by_cases htk : t < k
                    · exact HR2.out t htk
                    · obtain rfl : t = k := by omega
                      exact ⟨by rw [HXe.out]; omega, by rw [HXe.out]; omega, fun h0 => by rw [HXe.out, HXp.out h0]; omega⟩)
                  clear hcc h7
                  go_wp2_with fail
                  go_roundw
                  case rel => exact ⟨k + 1, by omega, by go_num, HW3.out, HE3.out, HNx⟩
                  case measure => simp [intOf]; omega
            · obtain rfl : k = m := by omega
              have HNext := Lib.hid (show ∀ j, j < i + 1 → okE l j from fun j hj => by
                by_cases hji : j < i
                · exact HR.out j hji
                · obtain rfl : j = i := by omega
                  exact ⟨HDoc.out, by rw [HE.out, HM.out]; omega, by rw [HE.out, HM.out]; omega, by rw [HE.out]; exact fun t ht => HR2.out t (by rw [HM.out] at ht; exact ht)⟩)
              go_wp2_with fail
              go_roundw
              case rel => exact ⟨i + 1, by omega, by go_num, HW2.out, HNext⟩
              case measure => simp [intOf]; omega
    · obtain rfl : i = N := by omega
      have HT := Lib.hid (show mayB l = true from decide_eq_true ⟨by have := HN.out; omega, fun j hj => HR.out j (by rw [← HN.out]; exact hj)⟩)
      go_wp2_with fail
      go_ret
      exact ⟨by rw [HT.out]; rfl, HW.out⟩
end Go.Proofs.Ytaaeooimalglaaa
