/-
  Layer 18 as it landed: find, for each tree; Eval. Over the program's own text.
-/
import Derived.Test.YtaaeooimalglaaaMatG
namespace Go.Proofs.Ytaaeooimalglaaa
open Go.RowKit

/-- What goes along: the finder's block, all else as it was. -/
structure FW (w0 w : World) (fb : Nat) (L : List (List Fo)) (v : Value) (docs : List Int) : Prop where
  mod : Mod (fun k => k = fb) w0 w
  fi : FiAt w fb L
  rd : RdZS w fb v docs
theorem sub_rise {docs : List Int} (h : RiseP docs) (p : Int → Bool) : RiseP (docs.filter p) := rise_filter h p
theorem below_mod2 {fb : Nat} {w w' : World} (h : Below w.heap.size w w') : Mod (fun k => k = fb) w w' := ⟨h.os, h.tape, h.output, h.size, fun k hk _ => h.block k hk⟩
theorem FW.below {w0 w w' : World} {fb : Nat} {L : List (List Fo)} {v : Value} {docs : List Int} (h : FW w0 w fb L v docs) (hb : Below w.heap.size w w') : FW w0 w' fb L v docs :=
  ⟨h.mod.trans (below_mod2 hb), h.fi.below hb, h.rd.keep (below_kp hb)⟩
theorem rise_drop {L : List (List Fo)} (h : ∀ l ∈ L, RiseF l) (n : Nat) : ∀ l ∈ L.drop n, RiseF l := fun l hl => h l (List.mem_of_mem_drop hl)
theorem head_rise {L : List (List Fo)} (h : ∀ l ∈ L, RiseF l) : RiseF (L.headD []) := by
  cases L with
  | nil => exact List.Pairwise.nil
  | cons l L => exact h l (by simp)
set_option maxRecDepth 100000 in
set_option maxHeartbeats 8000000 in
theorem find_any (fb : Nat) : ∀ (x : Nd), FewN x → ∀ (w : World) (r : Rn) (v : Value) (docs : List Int) (L : List (List Fo)), RdN w (fun b => b ≠ fb) x r → RdZS w fb v docs → FiAt w fb L → RiseP docs → (∀ l ∈ L, RiseF l) → docs.length ≤ 1000000 →
    Calls Try.prog 26 #[.pointer (some ⟨fb, 0, none⟩), rnV r, v] w fun e w' => ∃ u, e = .returned u ∧ FW w w' fb (L.drop (leavesN x)) u (docs.filter (semN x L)) := by
  refine Nd.ind2 fun k f ts ks ih hfew w r v docs L h hv hfi hrd hrl h6 => ?_
  cases h with
  | @mk _ _ _ _ ta ka tc kc rs hf0 hf1 ht htl htm htb hk hkl hkm hkb hl hr =>
  cases hfew with
  | mk hft hfk hfs =>
  obtain ⟨m, hm⟩ : ∃ m, m = ks.length := ⟨_, rfl⟩
  obtain ⟨tn, htn⟩ : ∃ tn, tn = ts.length := ⟨_, rfl⟩
  have hfbl := hfi.lt
  obtain ⟨va, vn, vc, hv2⟩ : ∃ va vn vc, v = .slice va vn vc := by
    obtain ⟨⟨va, vc, h, _⟩, _⟩ := hv
    exact ⟨va, _, vc, h⟩
  subst hv2
  have HM := Lib.hid hm
  have HIh := Lib.hid (fun (i : Nat) x r (h1 : ks[i]? = some x) (h2 : rs[i]? = some r) (wx : World) (hk : Kp fb w wx) v docs L => ih x (List.mem_of_getElem? h1) (hfs x (List.mem_of_getElem? h1)) wx r v docs L ((hr i x r h1 h2).keep hk))
  have HK := Lib.hid (And.intro hk (And.intro hl (And.intro hkb hr)))
  have HV := Lib.hid (show RdZS w fb (.slice va vn vc) docs ∧ FiAt w fb L ∧ RiseP docs ∧ ∀ l ∈ L, RiseF l from ⟨hv, hfi, hrd, hrl⟩)
  rw [← hm] at hkl hfk
  rw [← hm, ← htn, show rnV (k, f, .slice ta tn tc, .slice ka m kc) = .agg #[.int .i64 k, .int .u8 f, .slice ta tn tc, .slice ka m kc] from rfl]
  obtain ⟨X, hX⟩ : ∃ X : Obj, X = .cells #[.int .i64 k, .int .u8 f, .slice ta tn tc, .slice ka m kc] 31 := ⟨_, rfl⟩
  have hb1 : Below w.heap.size w (w.alloc X) := below_one
  have hx1 : (w.alloc X).heap[w.heap.size]? = some (.cells #[.int .i64 k, .int .u8 f, .slice ta tn tc, .slice ka m kc] 31 (0, 0)) := by rw [heap_alloc_new w X, hX]
  have HB1 := Lib.hid (And.intro hb1 hx1)
  clear hm htn ih hf0 hf1 ht htl htm htb hk hkm hkb hl hr hft hfs hv hfi hrd hrl hb1 hx1
  by_cases h1 : k = 1
  · subst h1
    have HS := Lib.hid (sem_leaf (f := f) (ts := ts) (ks := ks) (L := L))
    go_enter Try.func26, Try.ntmps26
    have c0 := cell_at HB1.out.2 0
    simp only [List.getElem?_toArray, List.getElem?_cons_zero] at c0
    go_upto_region 1 with fail
    rw [← hX]
    clear hX
    generalize w.heap.size = bx at c0 ⊢
    generalize w.alloc X = w1 at HB1 c0 ⊢
    have HNx := Lib.hid (next_any w1 fb L (HV.out.2.1.below HB1.out.1))
    go_wp2_with fail
    refine HNx.out.mono ?_
    rintro e w2 ⟨p, rfl, hp, hfi2, hmod⟩
    have HW2 := Lib.hid (show RdFoS w2 fb p (L.headD []) ∧ FiAt w2 fb (L.drop 1) ∧ Mod (fun k => k = fb) w w2 ∧ RdZS w2 fb (.slice va vn vc) docs from ⟨hp, hfi2, (below_mod2 HB1.out.1).trans hmod, (HV.out.1.keep (below_kp HB1.out.1)).keep hmod.kp⟩)
    have HWi := Lib.hid (within_any w2 (.slice va vn vc) p docs (L.headD []) HW2.out.2.2.2.1 HW2.out.1.1 HV.out.2.2.1 (head_rise HV.out.2.2.2) h6)
    clear hp hfi2 hmod c0 HNx
    go_wp2_with fail
    refine HWi.out.mono ?_
    rintro e w3 ⟨u, rfl, hown, hb3⟩
    have HW3 := Lib.hid (show FW w w3 fb (L.drop 1) u (docs.filter (hasF (L.headD []))) from ⟨HW2.out.2.2.1.trans (below_mod2 hb3), HW2.out.2.1.below hb3, own_rdzs hown HW2.out.2.1.lt⟩)
    clear hown hb3 HWi
    go_wp2_with fail
    go_ret
    exact ⟨_, rfl, by rw [HS.out.1, HS.out.2]; exact HW3.out⟩
  · have c0 := cell_at HB1.out.2 0
    have c3 := cell_at HB1.out.2 3
    simp only [List.getElem?_toArray, List.getElem?_cons_zero, List.getElem?_cons_succ] at c0 c3
    have HLv := Lib.hid (leaves_kids (f := f) (ts := ts) (ks := ks) h1)
    have hb1 : (k == 1) = false := beq_eq_false_iff_ne.2 h1
    by_cases h2 : k = 2
    · subst h2
      have HS := Lib.hid (sem_and (f := f) (ts := ts) (ks := ks) (L := L))
      go_enter Try.func26, Try.ntmps26
      go_upto_region 1 with fail
      rw [← hX]
      clear hX
      have HF1 := Lib.hid (show FW (w.alloc X) (w.alloc X) fb (restL ks L 0) (.slice va vn vc) (allD ks L docs 0) from ⟨Mod.refl _ _, by rw [restL_zero]; exact HV.out.2.1.below HB1.out.1, by rw [allD_zero]; exact HV.out.1.keep (below_kp HB1.out.1)⟩)
      generalize hbw : w.heap.size = bx at c0 c3 ⊢
      generalize w.alloc X = w1 at HB1 c0 c3 HF1 ⊢
      have HBx := Lib.hid hbw
      clear hbw
      go_wp2_with fail
      clear c0 c3
      go_loopg [2, 25] m (fun g s2 s25 wr => ∃ (i : Nat) (vd : Value), i + g = m ∧ s25 = .int .i64 (i : Int) ∧ vd = s2 ∧ Hid (FW w1 wr fb (restL ks L i) vd (allD ks L docs i)))
      case atStart => exact ⟨0, _, by omega, rfl, rfl, HF1⟩
      case round =>
        clear HF1
        obtain ⟨i, vd, hig, rfl, rfl, HF⟩ := hrel
        cases gk with
        | zero =>
          have him : m = i := by omega
          have HFin := Lib.hid (show FW w wr fb (L.drop (leavesN (.mk 2 f ts ks))) vd (docs.filter (semN (.mk 2 f ts ks) L)) from by
            have h := HF.out
            rw [all_full (by rw [← HM.out, him]; exact Nat.le_refl _), rest_full (by rw [← HM.out, him]; exact Nat.le_refl _), ← HS.out, ← HLv.out] at h
            exact ⟨(below_mod2 HB1.out.1).trans h.mod, h.fi, h.rd⟩)
          go_wp2_with fail
          go_ret
          exact ⟨_, rfl, HFin.out⟩
        | succ g =>
          have hlt : i < m := by omega
          obtain ⟨x, hx⟩ : ∃ x, ks[i]? = some x := ⟨_, List.getElem?_eq_getElem (by rw [← HM.out]; exact hlt)⟩
          obtain ⟨ri, hri⟩ : ∃ ri, rs[i]? = some ri := ⟨_, List.getElem?_eq_getElem (by rw [HK.out.2.1, ← HM.out]; exact hlt)⟩
          obtain ⟨g0, o0, rfl, hca⟩ := HK.out.1 i ri hri
          have hg0 : g0 ≠ fb := HK.out.2.2.1 _ rfl (some_ne hx)
          have hkp : Kp fb w wr := fun b h1 h2 => (HF.out.mod.kp b h1 (by have := HB1.out.1.size; omega)).trans (HB1.out.1.block b h2)
          obtain ⟨k5, f5, tv5, kv5⟩ := ri
          obtain ⟨ta5, tn5, tc5, ka5, kn5, kc5, rfl, rfl⟩ := (HK.out.2.2.2 i x _ hx hri).slices
          have c0 := cell_keep (S := fun b => b ≠ fb) hkp hg0 (hca 0 _ rfl)
          have c1 := cell_keep (S := fun b => b ≠ fb) hkp hg0 (hca 1 _ rfl)
          have c2 := cell_keep (S := fun b => b ≠ fb) hkp hg0 (hca 2 _ rfl)
          have c3 := cell_keep (S := fun b => b ≠ fb) hkp hg0 (hca 3 _ rfl)
          rw [Nat.add_zero] at c0
          have HI := Lib.hid (show ∀ wx, Below wr.heap.size wr wx → Calls Try.prog 26 #[.pointer (some ⟨fb, 0, none⟩), .agg #[.int .i64 k5, .int .u8 f5, .slice ta5 tn5 tc5, .slice ka5 kn5 kc5], vd] wx fun e w' => ∃ u, e = .returned u ∧ FW wx w' fb (restL ks L (i + 1)) u ((allD ks L docs i).filter (semN x (restL ks L i))) from fun wx hb => by
            have := HIh.out i x _ hx hri wx (fun b h1 h2 => (hb.block b (by have := HB1.out.1.size; have := HF.out.mod.size; omega)).trans (hkp b h1 h2)) vd (allD ks L docs i) (restL ks L i) (HF.out.rd.keep (below_kp hb)) (HF.out.fi.below hb) (rise_filter HV.out.2.2.1 _) (rise_drop HV.out.2.2.2 _) (Nat.le_trans (List.length_filter_le _ _) h6)
            rw [restL_succ hx] at this
            exact this)
          have HX := Lib.hid hx
          have hlti : (i : Int) < (m : Int) := by omega
          clear hx hri hca hg0 hkp
          go_wp2_with fail
          refine (HI.out _ below_one).mono ?_
          rintro e w6 ⟨u, rfl, hf⟩
          have HF6 := Lib.hid (show FW w1 w6 fb (restL ks L (i + 1)) u (allD ks L docs (i + 1)) from by
            rw [allD_succ HX.out] at hf
            exact ⟨(HF.out.mod.trans (below_mod2 below_one)).trans hf.mod, hf.fi, hf.rd⟩)
          clear hf c0 c1 c2 c3
          go_wp2_with fail
          go_roundg g
          case measure => omega
          case rel => exact ⟨i + 1, u, by omega, by go_num, rfl, HF6⟩
    · have hb2 : (k == 2) = false := beq_eq_false_iff_ne.2 h2
      have hfb2 : w.heap.size ≠ fb := by omega
      go_enter Try.func26, Try.ntmps26
      go_upto_region 1 with fail
      rw [← hX]
      clear hX
      have HF1 := Lib.hid (show FW (w.alloc X) (w.alloc X) fb (restL ks L 0) (.slice va vn vc) (anyD ks L docs 0) from ⟨Mod.refl _ _, by rw [restL_zero]; exact HV.out.2.1.below HB1.out.1, by rw [anyD_zero]; exact HV.out.1.keep (below_kp HB1.out.1)⟩)
      generalize hbw : w.heap.size = bx at c0 c3 hfb2 ⊢
      generalize w.alloc X = w1 at HB1 c0 c3 HF1 ⊢
      rw [hbw] at HB1
      have HBx := Lib.hid hbw
      clear hbw
      go_wp2_with fail
      clear c0 c3
      go_loopg [9, 39] m (fun g s9 s39 wr => ∃ (i : Nat) (vd : Value), i + g = m ∧ s39 = .int .i64 (i : Int) ∧ vd = s9 ∧ Hid (FW w1 wr fb (restL ks L i) vd (anyD ks L docs i)))
      case atStart => exact ⟨0, _, by omega, rfl, rfl, HF1⟩
      case round =>
        clear HF1
        obtain ⟨i, vd, hig, rfl, rfl, HF⟩ := hrel
        cases gk with
        | zero =>
          have him : m = i := by omega
          have HFin := Lib.hid (show FW w wr fb (L.drop (leavesN (.mk k f ts ks))) vd (docs.filter fun d => !semAny ks L d) from by
            have h := HF.out
            rw [any_full (by rw [← HM.out, him]; exact Nat.le_refl _), rest_full (by rw [← HM.out, him]; exact Nat.le_refl _), ← HLv.out] at h
            exact ⟨(below_mod2 (by rw [HBx.out]; exact HB1.out.1)).trans h.mod, h.fi, h.rd⟩)
          have c0 : wr.cell? ⟨bx, 0, none⟩ = some (.int .i64 k) := cell_at ((HF.out.mod.kp bx hfb2 (lt_of_heap HB1.out.2)).trans HB1.out.2) 0
          by_cases h3 : k = 3
          · subst h3
            have HS := Lib.hid (sem_or (f := f) (ts := ts) (ks := ks) (L := L))
            have HWo := Lib.hid (without_any wr (.slice va vn vc) vd docs (fun d => !semAny ks L d) ((HV.out.1.keep (below_kp (by rw [HBx.out]; exact HB1.out.1))).keep HF.out.mod.kp).1 HFin.out.rd.1 h6)
            go_wp2_with fail
            refine HWo.out.mono ?_
            rintro e w3 ⟨u, rfl, hown, hb3⟩
            have HW3 := Lib.hid (show FW w w3 fb (L.drop (leavesN (.mk 3 f ts ks))) u (docs.filter (semN (.mk 3 f ts ks) L)) from ⟨HFin.out.mod.trans (below_mod2 hb3), HFin.out.fi.below hb3, by
              have := own_rdzs hown HFin.out.fi.lt
              rw [HS.out]
              simpa using this⟩)
            clear hown hb3 HWo c0
            go_wp2_with fail
            go_ret
            exact ⟨_, rfl, HW3.out⟩
          · have hb3 : (k == 3) = false := beq_eq_false_iff_ne.2 h3
            by_cases h4 : k = 4
            · subst h4
              have HS := Lib.hid (sem_not (f := f) (ts := ts) (ks := ks) (L := L))
              go_wp2_with fail
              go_ret
              exact ⟨_, rfl, by rw [HS.out]; exact HFin.out⟩
            · have hb4 : (k == 4) = false := beq_eq_false_iff_ne.2 h4
              have HS := Lib.hid (sem_else (f := f) (ts := ts) (ks := ks) (L := L) h1 h2 h3 h4)
              go_wp2_with fail
              go_ret
              exact ⟨_, rfl, HFin.out.mod, HFin.out.fi, by rw [HS.out, show docs.filter (fun _ => false) = [] from List.filter_eq_nil_iff.2 (by simp)]; exact nil_rdzs _ _⟩
        | succ g =>
          have hlt : i < m := by omega
          obtain ⟨x, hx⟩ : ∃ x, ks[i]? = some x := ⟨_, List.getElem?_eq_getElem (by rw [← HM.out]; exact hlt)⟩
          obtain ⟨ri, hri⟩ : ∃ ri, rs[i]? = some ri := ⟨_, List.getElem?_eq_getElem (by rw [HK.out.2.1, ← HM.out]; exact hlt)⟩
          obtain ⟨g0, o0, rfl, hca⟩ := HK.out.1 i ri hri
          have hg0 : g0 ≠ fb := HK.out.2.2.1 _ rfl (some_ne hx)
          have hkp : Kp fb w wr := fun b h1 h2 => (HF.out.mod.kp b h1 (by have := HB1.out.1.size; have := HBx.out; omega)).trans ((show Below w.heap.size w w1 by rw [HBx.out]; exact HB1.out.1).block b h2)
          obtain ⟨k5, f5, tv5, kv5⟩ := ri
          obtain ⟨ta5, tn5, tc5, ka5, kn5, kc5, rfl, rfl⟩ := (HK.out.2.2.2 i x _ hx hri).slices
          have c0 := cell_keep (S := fun b => b ≠ fb) hkp hg0 (hca 0 _ rfl)
          have c1 := cell_keep (S := fun b => b ≠ fb) hkp hg0 (hca 1 _ rfl)
          have c2 := cell_keep (S := fun b => b ≠ fb) hkp hg0 (hca 2 _ rfl)
          have c3 := cell_keep (S := fun b => b ≠ fb) hkp hg0 (hca 3 _ rfl)
          rw [Nat.add_zero] at c0
          have HI := Lib.hid (show ∀ wx, Below wr.heap.size wr wx → Calls Try.prog 26 #[.pointer (some ⟨fb, 0, none⟩), .agg #[.int .i64 k5, .int .u8 f5, .slice ta5 tn5 tc5, .slice ka5 kn5 kc5], vd] wx fun e w' => ∃ u, e = .returned u ∧ FW wx w' fb (restL ks L (i + 1)) u ((anyD ks L docs i).filter (semN x (restL ks L i))) from fun wx hb => by
            have := HIh.out i x _ hx hri wx (fun b h1 h2 => (hb.block b (by have := HB1.out.1.size; have := HF.out.mod.size; have := HBx.out; omega)).trans (hkp b h1 h2)) vd (anyD ks L docs i) (restL ks L i) (HF.out.rd.keep (below_kp hb)) (HF.out.fi.below hb) (rise_filter HV.out.2.2.1 _) (rise_drop HV.out.2.2.2 _) (Nat.le_trans (List.length_filter_le _ _) h6)
            rw [restL_succ hx] at this
            exact this)
          have HX := Lib.hid hx
          have hlti : (i : Int) < (m : Int) := by omega
          clear hx hri hca hg0 hkp
          go_wp2_with fail
          refine (HI.out _ below_one).mono ?_
          rintro e w6 ⟨u, rfl, hf⟩
          have HF6 := Lib.hid (show FW w1 w6 fb (restL ks L (i + 1)) u ((anyD ks L docs i).filter (semN x (restL ks L i))) ∧ RdZS w6 fb vd (anyD ks L docs i) from ⟨⟨(HF.out.mod.trans (below_mod2 below_one)).trans hf.mod, hf.fi, hf.rd⟩, (HF.out.rd.keep (below_kp below_one)).keep hf.mod.kp⟩)
          have HWo := Lib.hid (without_any w6 vd u (anyD ks L docs i) (semN x (restL ks L i)) HF6.out.2.1 HF6.out.1.rd.1 (Nat.le_trans (List.length_filter_le _ _) h6))
          clear hf c0 c1 c2 c3
          go_wp2_with fail
          refine HWo.out.mono ?_
          rintro e w7 ⟨u7, rfl, hown, hb7⟩
          have HF7 := Lib.hid (show FW w1 w7 fb (restL ks L (i + 1)) u7 (anyD ks L docs (i + 1)) from ⟨HF6.out.1.mod.trans (below_mod2 hb7), HF6.out.1.fi.below hb7, by
            have := own_rdzs hown HF6.out.1.fi.lt
            rw [anyD_succ HX.out] at this
            exact this⟩)
          clear hown hb7 HWo
          go_wp2_with fail
          go_roundg g
          case measure => omega
          case rel => exact ⟨i + 1, u7, by omega, by go_num, rfl, HF7⟩
end Go.Proofs.Ytaaeooimalglaaa
