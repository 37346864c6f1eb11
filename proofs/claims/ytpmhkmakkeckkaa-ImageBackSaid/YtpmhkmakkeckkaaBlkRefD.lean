/-
  The reference of layer 13: are two lists the same. Over the program's own text.
-/
import Derived.Test.YtpmhkmakkeckkaaEnts
import Derived.Test.YtpmhkmakkeckkaaRegion
import Derived.BigQuiet
namespace Go.Proofs.Ytpmhkmakkeckkaa
open Go.RowKit

set_option maxRecDepth 100000 in
theorem drewN_add (w : World) (a b : Nat) : (w.drewN a).drewN b = w.drewN (a + b) := by simp [World.drewN, Nat.add_assoc]
set_option maxRecDepth 100000 in
set_option maxHeartbeats 8000000 in
theorem ref_same13 (w : World) (oa ob : Option Addr) (ca cb na nb : Nat) (A B : List En) (ea : A.length = na) (eb : B.length = nb) (ha : ReadE w oa A) (hb : ReadE w ob B) (hn : na ≤ 1000000) (hpa : ∀ e ∈ A, e.2.length ≤ 1000000) :
    Calls Try.prog 31 #[.slice oa na ca, .slice ob nb cb] w fun e w' => e = .returned (.bool (decide (A = B))) ∧ Below w.heap.size w w' := by
  have HA := Lib.hid ha
  have HB := Lib.hid hb
  have HPa := Lib.hid hpa
  have HNa := Lib.hid ea
  have HNb := Lib.hid eb
  clear ha hb hpa
  by_cases hl : na = nb
  · subst hl
    clear ea eb
    go_enter Try.func31, Try.ntmps31
    go_wp2_with fail
    go_loopw [14] (fun iv wr => ∃ i : Nat, i ≤ na ∧ iv = .int .i64 (i : Int) ∧ Hid (A.take i = B.take i) ∧ ∃ m, wr = w.drewN m) (fun i _ => na - (intOf i).toNat)
    case atStart => exact ⟨0, by omega, rfl, Lib.hid rfl, 0, rfl⟩
    case round =>
      obtain ⟨i, hi, rfl, HT, m0, rfl⟩ := hrel
      by_cases hlt : i < na
      · have hlt1 : (i : Int) < (na : Int) := by omega
        obtain ⟨x, hx⟩ : ∃ x, A[i]? = some x := ⟨_, List.getElem?_eq_getElem (by rw [HNa.out]; exact hlt)⟩
        obtain ⟨y, hy⟩ : ∃ y, B[i]? = some y := ⟨_, List.getElem?_eq_getElem (by rw [HNb.out]; exact hlt)⟩
        obtain ⟨gx, ox, hoa, cx, p, cxp, pa, pac, rfl, _, _, _, rx⟩ := HA.out i x hx
        obtain ⟨gy, oy, hob, cy, p2, cyp, pb, pbc, rfl, _, _, _, ry⟩ := HB.out i y hy
        subst hoa hob
        have HX := Lib.hid (And.intro hx hy)
        have hpb := HPa.out x (List.mem_of_getElem? hx)
        obtain ⟨d, ps⟩ := x
        obtain ⟨d2, qs⟩ := y
        simp only at cx cxp cy cyp rx ry hpb
        obtain ⟨m, hm⟩ : ∃ m, ps.length = m := ⟨_, rfl⟩
        obtain ⟨m2, hm2⟩ : ∃ m, qs.length = m := ⟨_, rfl⟩
        rw [hm] at cxp hpb
        rw [hm2] at cyp
        have HM := Lib.hid (And.intro hm hm2)
        have HRx := Lib.hid rx
        have HRy := Lib.hid ry
        have HC := Lib.hid (And.intro cx (And.intro cxp (And.intro cy cyp)))
        obtain ⟨bb, hbb⟩ : ∃ bb : Bool, bb = decide (d ≠ d2 ∨ m ≠ m2) := ⟨_, rfl⟩
        have c1 : w.cell? ⟨gx, ox + i * 2, none⟩ = some (.int .i64 d) := cx
        have c2 : w.cell? ⟨gx, ox + i * 2 + 1, none⟩ = some (.slice pa m pac) := cxp
        have c3 : w.cell? ⟨gy, oy + i * 2, none⟩ = some (.int .i64 d2) := cy
        have c4 : w.cell? ⟨gy, oy + i * 2 + 1, none⟩ = some (.slice pb m2 pbc) := cyp
        clear hx hy hm hm2 rx ry cx cxp cy cyp
        go_upto_region 6 with fail
        go_cut [42] from 17 to 42 (fun cv wx => cv = .bool bb ∧ ∃ t, wx = w.drewN t)
        case first =>
          by_cases hd : d = d2
          · subst hd
            have hdb : ((d : Int) != d) = false := by simp
            by_cases hmm : m = m2
            · subst hmm
              have hmb : ((m : Int) != (m : Int)) = false := by simp
              go_big_quiet (fail)
              go_wp2_with fail
              go_meet
              case rel => exact ⟨congrArg Value.bool (show false = bb from by rw [hbb]; simp), _, rfl⟩
            · have hmb : ((m : Int) != (m2 : Int)) = true := bne_iff_ne.2 (by omega)
              go_big_quiet (fail)
              go_wp2_with fail
              go_meet
              case rel => exact ⟨congrArg Value.bool (show true = bb from by rw [hbb]; simp <;> omega), _, rfl⟩
          · have hdb : ((d : Int) != d2) = true := bne_iff_ne.2 hd
            go_big_quiet (fail)
            go_wp2_with fail
            go_meet
            case rel => exact ⟨congrArg Value.bool (show true = bb from by rw [hbb]; simp [hd]), _, rfl⟩
        case rest =>
          obtain ⟨rfl, t, rfl⟩ := hcut
          clear c1 c2 c3 c4
          have c2 : w.cell? ⟨gx, ox + i * 2 + 1, none⟩ = some (.slice pa m pac) := HC.out.2.1
          have c4 : w.cell? ⟨gy, oy + i * 2 + 1, none⟩ = some (.slice pb m2 pbc) := HC.out.2.2.2
          cases bb with
          | true =>
            have HNe := Lib.hid (show A ≠ B from fun e => by
              have h1 := HX.out.1
              rw [e, HX.out.2] at h1
              injection h1 with h1
              injection h1 with h1 h2
              rcases of_decide_eq_true hbb.symm with h | h
              · exact h h1.symm
              · exact h (by rw [← HM.out.1, ← HM.out.2, h2]))
            clear hbb
            go_wp2_with fail
            go_ret
            exact ⟨by simp [HNe.out], below_drawn (Below.refl _ _) _⟩
          | false =>
            have h7 := of_decide_eq_false hbb.symm
            obtain rfl : d = d2 := by
              by_cases h : d = d2
              · exact h
              · exact absurd (.inl h) h7
            obtain rfl : m = m2 := by
              by_cases h : m = m2
              · exact h
              · exact absurd (.inr h) h7
            clear hbb h7
            go_wp2_with fail
            go_loopw [49] (fun kv wr => ∃ k : Nat, k ≤ m ∧ kv = .int .i64 (k : Int) ∧ Hid (ps.take k = qs.take k) ∧ ∃ t, wr = w.drewN t) (fun k _ => m - (intOf k).toNat)
            case atStart => exact ⟨0, by omega, rfl, Lib.hid rfl, t, rfl⟩
            case round =>
              obtain ⟨k, hk, rfl, HT2, t3, rfl⟩ := hrel
              clear c2 c4
              have c2 : w.cell? ⟨gx, ox + i * 2 + 1, none⟩ = some (.slice pa m pac) := HC.out.2.1
              have c4 : w.cell? ⟨gy, oy + i * 2 + 1, none⟩ = some (.slice pb m pbc) := HC.out.2.2.2
              by_cases hkm : k < m
              · have hkm1 : (k : Int) < (m : Int) := by omega
                obtain ⟨u, hu⟩ : ∃ u, ps[k]? = some u := ⟨_, List.getElem?_eq_getElem (by rw [HM.out.1]; exact hkm)⟩
                obtain ⟨v, hv⟩ : ∃ v, qs[k]? = some v := ⟨_, List.getElem?_eq_getElem (by rw [HM.out.2]; exact hkm)⟩
                obtain ⟨gu, ou, hpu, cu⟩ := HRx.out k u hu
                obtain ⟨gv, ov, hpv, cv⟩ := HRy.out k v hv
                subst hpu hpv
                have HU := Lib.hid (And.intro hu hv)
                have cu2 : w.cell? ⟨gu, ou + k, none⟩ = some (.int .i64 u) := cu
                have cv2 : w.cell? ⟨gv, ov + k, none⟩ = some (.int .i64 v) := cv
                clear hu hv cu cv
                obtain ⟨cc, hcc⟩ : ∃ cc : Bool, cc = decide (u ≠ v) := ⟨_, rfl⟩
                go_upto_region 11 with fail
                go_cut [68] from 52 to 68 (fun cv wx => cv = .bool cc ∧ ∃ t, wx = w.drewN t)
                case first =>
                  by_cases huv : u = v
                  · subst huv
                    have hub : ((u : Int) != u) = false := by simp
                    go_big_quiet (fail)
                    go_wp2_with fail
                    go_meet
                    case rel => exact ⟨congrArg Value.bool (show false = cc from by rw [hcc]; simp), _, drewN_add _ _ _⟩
                  · have hub : ((u : Int) != v) = true := bne_iff_ne.2 huv
                    go_big_quiet (fail)
                    go_wp2_with fail
                    go_meet
                    case rel => exact ⟨congrArg Value.bool (show true = cc from by rw [hcc]; simp [huv]), _, drewN_add _ _ _⟩
                case rest =>
                  obtain ⟨rfl, t4, rfl⟩ := hcut
                  cases cc with
                  | true =>
                    have HNe := Lib.hid (show A ≠ B from fun e => by
                      have h1 := HX.out.1
                      rw [e, HX.out.2] at h1
                      injection h1 with h1
                      injection h1 with h1 h2
                      have h3 := HU.out.1
                      rw [← h2, HU.out.2] at h3
                      injection h3 with h3
                      exact of_decide_eq_true hcc.symm h3.symm)
                    clear hcc
                    go_wp2_with fail
                    go_ret
                    exact ⟨by simp [HNe.out], below_drawn (Below.refl _ _) _⟩
                  | false =>
                    have huv : u = v := by
                      by_cases h : u = v
                      · exact h
                      · exact absurd h (of_decide_eq_false hcc.symm)
                    have HNx := Lib.hid (show ps.take (k + 1) = qs.take (k + 1) by rw [List.take_add_one, List.take_add_one, HU.out.1, HU.out.2, HT2.out, huv])
                    clear hcc huv
                    go_wp2_with fail
                    go_roundw
                    case rel => exact ⟨k + 1, by omega, by go_num, HNx, _, rfl⟩
                    case measure => simp [intOf]; omega
              · obtain rfl : k = m := by omega
                have HNx := Lib.hid (show A.take (i + 1) = B.take (i + 1) by
                  have h1 := HT2.out
                  rw [List.take_of_length_le (by have := HM.out.1; omega), List.take_of_length_le (by have := HM.out.2; omega)] at h1
                  rw [List.take_add_one, List.take_add_one, HX.out.1, HX.out.2, HT.out, h1])
                go_wp2_with fail
                go_roundw
                case rel => exact ⟨i + 1, by omega, by go_num, HNx, _, rfl⟩
                case measure => simp [intOf]; omega
      · go_wp2_with fail
        go_ret
        have : A = B := by
          have := HT.out
          rwa [List.take_of_length_le (by have := HNa.out; omega), List.take_of_length_le (by have := HNb.out; omega)] at this
        exact ⟨by simp [this], below_drawn (Below.refl _ _) _⟩
  · have hI : ((na : Int) != (nb : Int)) = true := bne_iff_ne.2 (by omega)
    have HD := Lib.hid (show A ≠ B from fun e => hl (by rw [← ea, ← eb, e]))
    clear hl ea eb
    go_enter Try.func31, Try.ntmps31
    go_wp2_with fail
    go_ret
    exact ⟨by simp [HD.out], Below.refl _ _⟩
end Go.Proofs.Ytpmhkmakkeckkaa
