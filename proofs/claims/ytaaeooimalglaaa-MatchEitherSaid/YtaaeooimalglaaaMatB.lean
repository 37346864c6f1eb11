/-
  Layer 18 as it landed: how often terms stand as they should in one document. Over the program's own text.
-/
import Derived.Test.YtaaeooimalglaaaMatA
import Derived.IntWalk
namespace Go.Proofs.Ytaaeooimalglaaa
open Go.RowKit

/-- Rows of lists whose first entries have these places. -/
def ReadPs (w : World) (oa : Option Addr) (Ps : List (List Int)) : Prop := ∀ (j : Nat) (P : List Int), Ps[j]? = some P → ∃ g o : Nat, oa = some ⟨g, o, none⟩ ∧ ∃ p, w.cell? ⟨g, o + j, none⟩ = some p ∧ ∃ e r, RdE w p (e :: r) ∧ e.2 = P
structure PlacesOk (T : List Tk) (Ps : List (List Int)) : Prop where
  len : T.length = Ps.length
  pos : 0 < T.length
  few : T.length ≤ 1000000
  ts : ∀ t ∈ T, 0 ≤ t.2.2 ∧ t.2.2 ≤ 65535
  ps : ∀ P ∈ Ps, RiseP P ∧ P.length ≤ 1000000 ∧ ∀ x ∈ P, 0 ≤ x ∧ x ≤ 65535

set_option maxRecDepth 100000 in
set_option maxHeartbeats 4000000 in
theorem times_any (W : World) (ta la : Option Addr) (tc lc m : Nat) (T : List Tk) (Ps : List (List Int)) (hT : ReadT W ta T) (hm : m = T.length) (hP : ReadPs W la Ps) (hok : PlacesOk T Ps) :
    Calls Try.prog 22 #[.slice ta m tc, .slice la m lc] W fun e w' => e = .returned (.int .i64 ((timesP T Ps : Nat) : Int)) ∧ Below W.heap.size W w' := by
  obtain ⟨hlen, hpos, hfew, hts, hps⟩ := hok
  obtain ⟨P0, hP0⟩ : ∃ P, Ps[0]? = some P := ⟨_, List.getElem?_eq_getElem (by omega)⟩
  obtain ⟨t0, ht0⟩ : ∃ t, T[0]? = some t := ⟨_, List.getElem?_eq_getElem (by omega)⟩
  have hp0 := hps P0 (List.mem_of_getElem? hP0)
  have hfirst : firstT T = t0.2.2 := by unfold firstT; cases T with | nil => simp at ht0 | cons t T => simp at ht0; subst ht0; rfl
  have hhead : Ps.headD [] = P0 := by cases Ps with | nil => simp at hP0 | cons P Ps => simp at hP0; subst hP0; rfl
  obtain ⟨g0, o0, rfl, p0, hcp0, e0, r0, ⟨ea, ec, rfl, _, _, _, hre⟩, hee⟩ := hP 0 P0 hP0
  obtain ⟨ge, oe, rfl, _, q0, hcq0, qa, qc, rfl, hql, hqm, hqn, hrz⟩ := hre 0 e0 rfl
  rw [hee] at hrz hql
  rw [hee] at hcq0
  obtain ⟨gt, ot, rfl, _, _, hct0⟩ := hT 0 t0 ht0
  obtain ⟨n, hn⟩ : ∃ n, n = P0.length := ⟨_, rfl⟩
  have hcount : ∀ k, k = n → (((P0.take k).countP fun q => standB (firstT T) q T Ps : Nat) : Int) = ((timesP T Ps : Nat) : Int) := by
    intro k hk
    rw [hk, hn, List.take_length]
    unfold timesP
    rw [hhead]
  have hs0 := hts t0 (List.mem_of_getElem? ht0)
  have HCnt := Lib.hid hcount
  have HT := Lib.hid hT
  have HP := Lib.hid hP
  have HZ := Lib.hid hrz
  have HTs := Lib.hid hts
  have HPs := Lib.hid hps
  have HP0 := Lib.hid (show n = P0.length ∧ (∀ x ∈ P0, 0 ≤ x ∧ x ≤ 65535) from ⟨hn, hp0.2.2⟩)
  have HM := Lib.hid (show m = T.length ∧ m = Ps.length from ⟨hm, by omega⟩)
  have hn6 : n ≤ 1000000 := by have := hp0.2.1; omega
  have hm6 : m ≤ 1000000 := by omega
  have hm0 : (0 : Int) < (m : Int) := by omega
  rw [Nat.zero_mul, Nat.add_zero] at hcq0 hct0
  rw [Nat.add_zero] at hcp0
  rw [← hn] at hcq0
  rw [hfirst] at HCnt
  have her : (0 : Int) < ((r0.length + 1 : Nat) : Int) := by omega
  rw [show (e0 :: r0).length = r0.length + 1 from rfl] at hcp0
  generalize r0.length + 1 = em at her hcp0
  have HF := Lib.hid (And.intro hcp0 (And.intro hcq0 hct0))
  clear hcount hT hP hrz hts hps hn hm hlen hpos hfew hhead hfirst ht0 hP0 hre hee hp0 hql hqm hqn
  go_enter Try.func22, Try.ntmps22
  go_wp2_with fail
  go_step3
  go_wp2_with fail
  go_step3
  go_wp2_with fail
  clear hcp0 hcq0 hct0
  go_loopg [5, 19] n (fun g s5 s19 wr => ∃ i : Nat, i + g = n ∧ s19 = .int .i64 (i : Int) ∧ s5 = .int .i64 (((P0.take i).countP fun q => standB t0.2.2 q T Ps : Nat) : Int) ∧ Hid (Below W.heap.size W wr))
  case atStart => exact ⟨0, by omega, rfl, by simp, Lib.hid (Below.refl _ _)⟩
  case round =>
    obtain ⟨i, hig, rfl, rfl, HB⟩ := hrel
    have hcl : (P0.take i).countP (fun q => standB t0.2.2 q T Ps) ≤ i := Nat.le_trans List.countP_le_length (by rw [List.length_take]; omega)
    cases gk with
    | zero =>
      have hin : n = i := by omega
      have hc := HCnt.out i hin.symm
      subst hin
      have HC := Lib.hid hc
      clear hc hcl
      go_wp2_with fail
      try rw [Exit.noGoto_ret]
      go_ret
      exact ⟨by rw [← HC.out]; rfl, HB.out⟩
    | succ g =>
      have hlt : i < n := by omega
      obtain ⟨q, hq⟩ : ∃ q, P0[i]? = some q := ⟨_, List.getElem?_eq_getElem (by rw [← HP0.out.1]; exact hlt)⟩
      obtain ⟨gq, oq, rfl, hcq⟩ := HZ.out i q hq
      have hq1 := HP0.out.2 q (List.mem_of_getElem? hq)
      have HCt := Lib.hid (count_take (fun q => standB t0.2.2 q T Ps) hq)
      obtain ⟨cn, hcn⟩ : ∃ cn, cn = (P0.take i).countP (fun q => standB t0.2.2 q T Ps) := ⟨_, rfl⟩
      rw [← hcn] at HCt hcl ⊢
      have cq := below_cell hcq HB.out
      clear hcq hq hcn
      have hlti : (i : Int) < (n : Int) := by omega
      go_wp2_with fail
      go_loopg [25] m (fun g2 s25 wy => ∃ j : Nat, j + g2 = m ∧ s25 = .int .i64 (j : Int) ∧ Hid (standTo t0.2.2 q T Ps j) ∧ Hid (Below W.heap.size W wy))
      case atStart => exact ⟨0, by omega, rfl, Lib.hid (standTo_zero _ _ _ _), HB⟩
      case round =>
        clear HB cq
        obtain ⟨j, hjg, rfl, HS, HB⟩ := hrel
        cases gk with
        | zero =>
          have hjm : m = j := by omega
          subst hjm
          have hy : standB t0.2.2 q T Ps = true := stand_yes (by rw [← HM.out.1]; exact HS.out)
          have HC2 := Lib.hid (show (P0.take (i + 1)).countP (fun q => standB t0.2.2 q T Ps) = cn + 1 by rw [HCt.out, hy]; rfl)
          clear hy HCt
          go_wp2_with fail
          go_roundg g
          case measure => omega
          case rel => exact ⟨i + 1, by omega, by go_num, by rw [HC2.out]; go_num, HB⟩
        | succ g2 =>
          have hltj : j < m := by omega
          obtain ⟨t, ht⟩ : ∃ t, T[j]? = some t := ⟨_, List.getElem?_eq_getElem (by rw [← HM.out.1]; exact hltj)⟩
          obtain ⟨P, hPj⟩ : ∃ P, Ps[j]? = some P := ⟨_, List.getElem?_eq_getElem (by rw [← HM.out.2]; exact hltj)⟩
          obtain ⟨gx, ox, hx, k0, k1, k2⟩ := HT.out j t ht
          injection hx with hx
          injection hx with hx hx'
          subst hx hx'
          obtain ⟨gy, oy, hy, pj, hpj, e, r, ⟨ya, yc, rfl, _, _, _, hre⟩, hee⟩ := HP.out j P hPj
          injection hy with hy
          injection hy with hy hy'
          subst hy hy'
          obtain ⟨gz, oz, rfl, _, pz, hpz, hrz⟩ := hre 0 e rfl
          rw [hee] at hrz
          have hpp := HPs.out P (List.mem_of_getElem? hPj)
          have ht5 := HTs.out t (List.mem_of_getElem? ht)
          have c0 := below_cell k0 HB.out
          have c1 := below_cell k1 HB.out
          have c2 := below_cell k2 HB.out
          have c3 := below_cell hpj HB.out
          have c4 := below_cell hpz HB.out
          have c5 := below_cell HF.out.2.2 HB.out
          rw [Nat.zero_mul, Nat.add_zero] at c4
          rw [show (e :: r).length = r.length + 1 from rfl] at c3
          have her2 : (0 : Int) < ((r.length + 1 : Nat) : Int) := by omega
          generalize r.length + 1 = ym at c3 her2
          have HSe := Lib.hid (fun (wx : World) (hb : Below W.heap.size W wx) => search_any wx pz P (q - t0.2.2 + t.2.2) (hrz.below hb) hpp.1 hpp.2.1)
          have HYes := Lib.hid (fun h => standTo_succ HS.out ht hPj h)
          have HNo := Lib.hid (fun h => stand_no (t0 := t0.2.2) (q := q) ht hPj h)
          have hltji : (j : Int) < (m : Int) := by omega
          clear k0 k1 k2 hpj hpz hre hee hrz hpp ht hPj
          generalize hk5 : kS P (q - t0.2.2 + t.2.2) = ks at HSe
          clear hk5
          obtain ⟨X, hX⟩ : ∃ X : Obj, X = .cells #[.int .u8 t.1, .string t.2.1, .int .i64 t.2.2] 41 := ⟨_, rfl⟩
          go_upto_region 8 with fail
          rw [← hX]
          have hb2 : Below wr.heap.size wr (wr.alloc X) := below_one
          have HB2 := Lib.hid (low_more HB.out hb2)
          have d2 := below_cell c2 hb2
          have d3 := below_cell c3 hb2
          have d4 := below_cell c4 hb2
          have d5 := below_cell c5 hb2
          have dx := heap_alloc_new wr X
          rw [hX] at dx
          have dy := cell_at dx 2
          simp only [List.getElem?_toArray, List.getElem?_cons_succ, List.getElem?_cons_zero] at dy
          rw [← hX] at dy
          clear c0 c1 c2 c3 c4 c5 HB hb2 dx hX
          generalize wr.heap.size = bx at dy ⊢
          generalize wr.alloc X = w2 at HB2 d2 d3 d4 d5 dy ⊢
          clear wr X
          have hw1 : IntKind.i64.wrap (q - t0.2.2) = q - t0.2.2 := IntWalk.i64_in _ (by omega)
          have hw2 : IntKind.i64.wrap (q - t0.2.2 + t.2.2) = q - t0.2.2 + t.2.2 := IntWalk.i64_in _ (by omega)
          have HW2 := Lib.hid (fun m1 => below_drawn HB2.out m1)
          by_cases hmem : q - t0.2.2 + t.2.2 ∈ P
          · rw [decide_eq_true hmem] at HSe
            have HYs := Lib.hid (HYes.out hmem)
            clear HNo HYes
            go_quiet ((go_at_call 28; refine Calls.quiet_of (HSe.out _ (HW2.out _))))
            rename Nat => m1
            have HB3 := Lib.hid (HW2.out m1)
            go_wp2_with fail
            go_roundg g2
            case measure => omega
            case rel => exact ⟨j + 1, by omega, by go_num, HYs, HB3⟩
          · rw [decide_eq_false hmem] at HSe
            have HNs := Lib.hid (show (P0.take (i + 1)).countP (fun q => standB t0.2.2 q T Ps) = cn by rw [HCt.out, HNo.out hmem]; rfl)
            clear HNo HYes
            go_quiet ((go_at_call 28; refine Calls.quiet_of (HSe.out _ (HW2.out _))))
            rename Nat => m1
            have HB3 := Lib.hid (HW2.out m1)
            go_wp2_with fail
            go_roundg g
            case measure => omega
            case rel => exact ⟨i + 1, by omega, by go_num, by rw [HNs.out], HB3⟩
end Go.Proofs.Ytaaeooimalglaaa
