/-
  What post.Put keeps: it makes of a run what its program does. Over the program's own text.
-/
import Derived.Test.YtiabmbkmahlhkaaPostLandsA
import Derived.Test.YtiabmbkmahlhkaaPostWalkR
import Derived.StillTailTactics
namespace Go.Proofs.Ytiabmbkmahlhkaa
open Go.RowKit

/-! ### The program, case by case -/
section
variable {B S U : Nat → Int} {t v : Int}
theorem putP_bad (h : ¬ rightT B S t) : putP B S U t v = .ret (0, fun _ => 0, 1) := by unfold putP; rw [if_neg h]
theorem behind_none (h : 0 < leftT B S t) : behindK B S t = none := by
  unfold leftT at h
  unfold behindK
  by_cases h0 : t = 0
  · rw [if_pos h0] at h; omega
  · rw [if_neg h0] at h ⊢
    rw [if_pos (by omega)]
theorem behind_some (h : leftT B S t = 0) : behindK B S t = some (nextT B S t) := by
  unfold leftT at h
  unfold behindK nextT
  by_cases h0 : t = 0
  · rw [if_pos h0, if_pos h0]
  · rw [if_neg h0] at h ⊢
    rw [if_neg (by omega), if_neg h0]
theorem putP_add (hr : rightT B S t) (h : 0 < leftT B S t) : putP B S U t v = .store (t + 1) v (.ret (t + 1, U, 0)) := by
  unfold putP
  rw [if_pos hr, behind_none h]
theorem putP_full (hr : rightT B S t) (h : leftT B S t = 0) {k : Nat} (hk : nextT B S t = k) (hf : ¬ slab k ≤ S k - U k) : putP B S U t v = .ret (0, fun _ => 0, 3) := by
  unfold putP
  rw [if_pos hr, behind_some h, hk]
  simp only
  rw [if_neg hf]
theorem putP_new (hr : rightT B S t) (h : leftT B S t = 0) {k : Nat} (hk : nextT B S t = k) (hf : slab k ≤ S k - U k) (h0 : t = 0) : putP B S U t v = .store (B k + U k + 1) v (.ret (B k + U k + 1, more U k (slab k), 0)) := by
  unfold putP
  rw [if_pos hr, behind_some h, hk]
  simp only
  rw [if_pos hf, if_pos h0]
theorem putP_more (hr : rightT B S t) (h : leftT B S t = 0) {k : Nat} (hk : nextT B S t = k) (hf : slab k ≤ S k - U k) (h0 : t ≠ 0) : putP B S U t v = .store (B k + U k) t (.store (B k + U k + 1) v (.ret (B k + U k + 1, more U k (slab k), 0))) := by
  unfold putP
  rw [if_pos hr, behind_some h, hk]
  simp only
  rw [if_pos hf, if_neg h0]
end

/-! ### Where all lies -/
theorem RM.far_of {w : World} {rb mb cb : Nat} {go : Option Nat} {st : St} (h : RM w rb mb cb go true st) {k : Nat} {c : Array Value} {t : TypeId} (hk : w.heap[k]? = some (.cells c t (0, 0))) (h1 : k ≠ rb) (h2 : k ≠ mb) (h3 : k ≠ cb) (ht : t ≠ 41) : ¬ Feet rb mb cb go k := by
  rintro (e | e | e | e)
  · exact h1 e
  · obtain ⟨cap, hr⟩ := h.run
    have hl := hr.row
    rw [e] at hl
    obtain ⟨cur, h4, _⟩ := hl
    rw [h4] at hk
    injection hk with hk
    injection hk with _ h5
    exact ht h5.symm
  · exact h2 e
  · exact h3 e
/-- The plan's copy, what is used, the second answer's variable; W: the world where the call began. -/
structure PW (W : World) (rb mb cb : Nat) (go0 : Option Nat) (B S U : Nat → Int) (C T L : Int) (st : St) (go : Option Nat) (w : World) : Prop where
  old : rb < W.heap.size ∧ mb < W.heap.size ∧ cb < W.heap.size
  p : w.heap[W.heap.size]? = some (.cells (planC B S C T L) 29 (0, 0))
  u : w.heap[W.heap.size + 1]? = some (.cells (six U) 27 (0, 0))
  r : w.heap[W.heap.size + 1 + 1]? = some (.cells (six fun _ => 0) 27 (0, 0))
  rm : RM w rb mb cb go true st
  adv : Adv rb mb cb W go0 w go
section
variable {W w w' : World} {rb mb cb : Nat} {go0 go go' : Option Nat} {B S U : Nat → Int} {C T L : Int} {st st' : St}
theorem PW.below (h : PW W rb mb cb go0 B S U C T L st go w) (hb : Below w.heap.size w w') : PW W rb mb cb go0 B S U C T L st go w' :=
  ⟨h.old, (hb.block _ (lt_of_heap h.p)).trans h.p, (hb.block _ (lt_of_heap h.u)).trans h.u, (hb.block _ (lt_of_heap h.r)).trans h.r, h.rm.below hb, h.adv.trans (Adv.of_below hb)⟩
theorem PW.drew (h : PW W rb mb cb go0 B S U C T L st go w) : PW W rb mb cb go0 B S U C T L st go w.drew := h.below (Below.refl _ _).drew
theorem PW.stays (h : PW W rb mb cb go0 B S U C T L st go w) (ha : Adv rb mb cb w go w' go') {k : Nat} {c : Array Value} {t : TypeId} (hk : w.heap[k]? = some (.cells c t (0, 0))) (hW : W.heap.size ≤ k) (ht : t ≠ 41) : w'.heap[k]? = some (.cells c t (0, 0)) := by
  obtain ⟨o1, o2, o3⟩ := h.old
  exact (ha.mod.block k (lt_of_heap hk) (h.rm.far_of hk (by omega) (by omega) (by omega) ht)).trans hk
theorem PW.access (h : PW W rb mb cb go0 B S U C T L st go w) (hr : RM w' rb mb cb go' true st') (ha : Adv rb mb cb w go w' go') : PW W rb mb cb go0 B S U C T L st' go' w' :=
  ⟨h.old, h.stays ha h.p (Nat.le_refl _) (by decide), h.stays ha h.u (by omega) (by decide), h.stays ha h.r (by omega) (by decide), hr, h.adv.trans ha⟩
theorem PW.turn (h : PW W rb mb cb go0 B S U C T L st go w) {k : Nat} {c : Array Value} (hk : w.heap[k]? = some (.cells c 27 (0, 0))) (hW : W.heap.size ≤ k) (cs : Array Value) : RM (w.setRow k cs) rb mb cb go true st ∧ Adv rb mb cb W go0 (w.setRow k cs) go := by
  obtain ⟨o1, o2, o3⟩ := h.old
  have hf := h.rm.far_of hk (by omega) (by omega) (by omega) (by decide)
  have hm : Mod (fun j => j = k) w (w.setRow k cs) := Mod.setRow (S := fun j => j = k) (Mod.refl _ _) (.inr rfl) _
  exact ⟨h.rm.mod hm fun j hj e => by subst e; exact hf hj, h.adv.grows, h.adv.mod.then hm fun i hi e => by omega⟩
theorem PW.setRow (h : PW W rb mb cb go0 B S U C T L st go w) {k : Nat} {c : Array Value} (hk : w.heap[k]? = some (.cells c 27 (0, 0))) (hW : W.heap.size + 1 + 1 < k) (cs : Array Value) : PW W rb mb cb go0 B S U C T L st go (w.setRow k cs) :=
  ⟨h.old, (setRow_other _ _ _ _ (by omega)).trans h.p, (setRow_other _ _ _ _ (by omega)).trans h.u, (setRow_other _ _ _ _ (by omega)).trans h.r, (h.turn hk (by omega) cs).1, (h.turn hk (by omega) cs).2⟩
theorem PW.start {w : World} {rb mb cb : Nat} {go : Option Nat} {st : St} (hrm : RM w rb mb cb go true st) (B S U : Nat → Int) (C T L : Int) : PW w rb mb cb go B S U C T L st go (((w.alloc (.cells (planC B S C T L) 29)).alloc (.cells (six U) 27)).alloc (.cells (six fun _ => 0) 27)) :=
  ⟨⟨hrm.lt rb (.inl rfl), hrm.lt mb (.inr (.inr (.inl rfl))), hrm.lt cb (.inr (.inr (.inr rfl)))⟩, heap3_0 _ _ _ _, heap3_1 _ _ _ _, heap3_2 _ _ _ _, hrm.below below_al3, Adv.of_below below_al3⟩
end
/-- What a Put must come to. -/
def PutDone (W : World) (rb mb cb : Nat) (go0 : Option Nat) (st : St) (p : Pr PutR) (e : Ending) (w' : World) : Prop :=
  ∃ t' V er go', e = .returned (.tuple #[.int .i64 t', .agg (six V), .int .i64 er]) ∧ RM w' rb mb cb go' true (p.on st).2 ∧ Adv rb mb cb W go0 w' go' ∧ ∀ x, (p.on st).1 = some x → x.1 = t' ∧ six x.2.1 = six V ∧ x.2.2 = er

section
variable {w : World} {rb mb cb : Nat} {go : Option Nat} {st : St} {Bd : Nat} {B S U : Nat → Int} {C T L t v : Int}
set_option maxRecDepth 100000 in
set_option maxHeartbeats 1000000 in
theorem put_bad (hrm : RM w rb mb cb go true st) (hf : st.Fine Bd) (hL : Laid B S C) (hr : ¬ rightT B S t) : Calls Try.prog 25 #[.pointer (some ⟨rb, 0, none⟩), .agg (planC B S C T L), .agg (six U), .int .i64 t, .int .u32 v] w fun e w' => PutDone w rb mb cb go st (putP B S U t v) e w' := by
  have HQ := Lib.hid (putP_bad (U := U) (v := v) hr)
  rw [HQ.out]
  have HRm := Lib.hid (fun w => room_any hL T L t w)
  rw [decide_eq_false hr] at HRm
  obtain ⟨rk, hrk⟩ : ∃ rk, rk = roomK B S t := ⟨_, rfl⟩
  obtain ⟨rf, hrf⟩ : ∃ rf, rf = roomF B S t := ⟨_, rfl⟩
  rw [← hrk, ← hrf] at HRm
  clear hrk hrf HQ hr hL
  have hP := PW.start hrm B S U C T L
  have HF := Lib.hid hf
  clear hrm hf
  go_enter Try.func25, Try.ntmps25
  go_upto_region 1 with fail
  have hw : (((w.alloc (.cells (planC B S C T L) 29)).alloc (.cells (six U) 27)).alloc (.cells #[.int .i64 0, .int .i64 0, .int .i64 0, .int .i64 0, .int .i64 0, .int .i64 0] 27)) = (((w.alloc (.cells (planC B S C T L) 29)).alloc (.cells (six U) 27)).alloc (.cells (six fun _ => 0) 27)) := rfl
  rw [hw]
  clear hw
  generalize (((w.alloc (.cells (planC B S C T L) 29)).alloc (.cells (six U) 27)).alloc (.cells (six fun _ => 0) 27)) = w1 at hP ⊢
  have HP := Lib.hid hP
  clear hP
  go_wp2_with (refine wpList_load_row rfl 29 (.tmp 6) rfl w.heap.size rfl 29 (planC B S C T L) (0, 0) _ HP.out.p Try.underlying29 rfl (planC_info _ _ _ _ _) ?_)
  refine (HRm.out _).mono ?_; rintro e w2 ⟨rfl, hb⟩
  have HP := Lib.hid (HP.out.below hb)
  clear hb HRm
  go_wp2_with (refine wpList_store_row rfl 27 (.tmp 11) (.tmp 28) rfl (w.heap.size + 1 + 1) (six fun _ => 0) rfl rfl 27 (six fun _ => 0) HP.out.r (six_info _) (six_both _ _) (six_one _) ?_)
  refine bodyPost_ret (v := .tuple #[.int .i64 0, .agg (six fun _ => 0), .int .i64 1]) (results_tmp_cell_tmp rfl _ _ (w.heap.size + 1 + 1) _ _ (0, 0) _ _ _ rfl rfl rfl (setRow_heap _ _ _ _ _ _ HP.out.r) Try.underlying27 rfl (six_info _)) rfl ?_
  obtain ⟨hr, ha⟩ := HP.out.turn HP.out.r (by omega) (six fun _ => 0)
  exact ⟨0, fun _ => 0, 1, go, rfl, hr, ha, fun x hx => by cases hx; exact ⟨rfl, rfl, rfl⟩⟩
set_option maxRecDepth 100000 in
set_option maxHeartbeats 1000000 in
theorem put_add (hrm : RM w rb mb cb go true st) (hf : st.Fine Bd) (hB : Bd < 1000000000) (hL : Laid B S C) (hr : rightT B S t) (hl : 0 < leftT B S t) (v0 : 0 ≤ v) (v1 : v ≤ 4294967295) : Calls Try.prog 25 #[.pointer (some ⟨rb, 0, none⟩), .agg (planC B S C T L), .agg (six U), .int .i64 t, .int .u32 v] w fun e w' => PutDone w rb mb cb go st (putP B S U t v) e w' := by
  have HQ := Lib.hid (putP_add (U := U) (v := v) hr hl)
  rw [HQ.out]
  have HRm := Lib.hid (fun w => room_any hL T L t w)
  obtain ⟨hrf, m, hm, hm4, hnx⟩ := room_right hL hr
  rw [decide_eq_true hr, hrf] at HRm
  have ht : 0 ≤ t ∧ t ≤ 65536 := by
    rcases hr with h | h
    · omega
    · have := hL.at_ h
      have := hL.c1
      omega
  obtain ⟨ht0, ht1⟩ := ht
  obtain ⟨rf, hrf2⟩ : ∃ rf, rf = leftT B S t := ⟨_, rfl⟩
  obtain ⟨rk, hrk⟩ : ∃ rk, rk = roomK B S t := ⟨_, rfl⟩
  rw [← hrk, ← hrf2] at HRm
  rw [← hrf2] at hl
  have s1 : IntKind.i64.wrap (t + 1) = t + 1 := IntWalk.i64_in _ (by omega)
  have HV := Lib.hid (show u32 v = v from u32_in ⟨v0, by omega⟩)
  clear hrk hrf hrf2 HQ hr hL hm hm4 hnx m v0 v1
  have hP := PW.start hrm B S U C T L
  have HF := Lib.hid hf
  clear hrm hf
  go_enter Try.func25, Try.ntmps25
  go_upto_region 1 with fail
  have hw : (((w.alloc (.cells (planC B S C T L) 29)).alloc (.cells (six U) 27)).alloc (.cells #[.int .i64 0, .int .i64 0, .int .i64 0, .int .i64 0, .int .i64 0, .int .i64 0] 27)) = (((w.alloc (.cells (planC B S C T L) 29)).alloc (.cells (six U) 27)).alloc (.cells (six fun _ => 0) 27)) := rfl
  rw [hw]
  clear hw
  generalize (((w.alloc (.cells (planC B S C T L) 29)).alloc (.cells (six U) 27)).alloc (.cells (six fun _ => 0) 27)) = w1 at hP ⊢
  have HP := Lib.hid hP
  clear hP
  go_wp2_with (refine wpList_load_row rfl 29 (.tmp 6) rfl w.heap.size rfl 29 (planC B S C T L) (0, 0) _ HP.out.p Try.underlying29 rfl (planC_info _ _ _ _ _) ?_)
  refine (HRm.out _).mono ?_; rintro e w2 ⟨rfl, hb⟩
  have HP := Lib.hid (HP.out.below hb)
  clear hb HRm
  have HK := Lib.hid (run_store HP.out.rm hB HF.out.ok (t + 1) v)
  go_wp2_with fail
  refine HK.out.mono ?_
  clear HK
  rintro e w9 ⟨rfl, go3, hr3, ha3⟩
  have HP := Lib.hid (HP.out.access hr3 ha3)
  clear hr3 ha3
  go_upto_region 6 with fail
  have e0 : w9.cell? ⟨w.heap.size + 1, 0, none⟩ = some (.int .i64 (U 0)) := cell_at HP.out.u 0
  have e1 : w9.cell? ⟨w.heap.size + 1, 1, none⟩ = some (.int .i64 (U 1)) := cell_at HP.out.u 1
  have e2 : w9.cell? ⟨w.heap.size + 1, 2, none⟩ = some (.int .i64 (U 2)) := cell_at HP.out.u 2
  have e3 : w9.cell? ⟨w.heap.size + 1, 3, none⟩ = some (.int .i64 (U 3)) := cell_at HP.out.u 3
  have e4 : w9.cell? ⟨w.heap.size + 1, 4, none⟩ = some (.int .i64 (U 4)) := cell_at HP.out.u 4
  have e5 : w9.cell? ⟨w.heap.size + 1, 5, none⟩ = some (.int .i64 (U 5)) := cell_at HP.out.u 5
  go_still_tail 4, (by kernel_rfl)
  change wpList _ _ _ _ _ w9.drew
  clear e0 e1 e2 e3 e4 e5
  go_wp2_with (first
    | (refine wpList_store_row rfl 27 (.tmp 11) (.tmp 38) rfl (w.heap.size + 1 + 1) (six U) rfl rfl 27 (six fun _ => 0) (show w9.drew.heap[w.heap.size + 1 + 1]? = _ from HP.out.r) (six_info _) (six_both _ _) (six_one _) ?_)
    | fail)
  refine bodyPost_ret (v := .tuple #[.int .i64 (t + 1), .agg (six U), .int .i64 0]) (results_tmp_cell_tmp rfl _ _ (w.heap.size + 1 + 1) _ _ (0, 0) _ _ _ rfl rfl rfl (setRow_heap _ _ _ _ _ _ (show w9.drew.heap[w.heap.size + 1 + 1]? = _ from HP.out.r)) Try.underlying27 rfl (six_info _)) rfl ?_
  obtain ⟨hr, ha⟩ := HP.out.drew.turn HP.out.r (by omega) (six U)
  have ho := on_one (st := st) (t + 1) v ((t + 1, U, 0) : PutR)
  rw [HV.out] at ho
  exact ⟨_, _, _, go3, rfl, by rw [ho.1]; exact hr, ha, fun x hx => by rw [ho.2 x hx]; exact ⟨rfl, rfl, rfl⟩⟩
set_option maxRecDepth 100000 in
set_option maxHeartbeats 1000000 in
theorem put_full (hrm : RM w rb mb cb go true st) (hf : st.Fine Bd) (hL : Laid B S C) (hU : ∀ k, k < 6 → 0 ≤ U k ∧ U k ≤ S k) (hr : rightT B S t) (hl : leftT B S t = 0) (hf2 : ¬ slab (nextT B S t) ≤ S (nextT B S t) - U (nextT B S t)) (v0 : 0 ≤ v) (v1 : v ≤ 4294967295) : Calls Try.prog 25 #[.pointer (some ⟨rb, 0, none⟩), .agg (planC B S C T L), .agg (six U), .int .i64 t, .int .u32 v] w fun e w' => PutDone w rb mb cb go st (putP B S U t v) e w' := by
  have HQ := Lib.hid (putP_full (U := U) (v := v) hr hl rfl hf2)
  rw [HQ.out]
  have HRm := Lib.hid (fun w => room_any hL T L t w)
  obtain ⟨hrf, m, hm, hm4, hnx⟩ := room_right hL hr
  rw [decide_eq_true hr, hrf] at HRm
  rw [hl] at HRm
  have hk4 : nextT B S t < 4 := (leftT_in hL hr).2.2
  have ht : 0 ≤ t ∧ t ≤ 65536 := by
    rcases hr with h | h
    · omega
    · have := hL.at_ h
      have := hL.c1
      omega
  obtain ⟨ht0, ht1⟩ := ht
  obtain ⟨rk, hrk⟩ : ∃ rk, rk = roomK B S t := ⟨_, rfl⟩
  rw [← hrk] at HRm hm
  obtain ⟨k, hk⟩ : ∃ k, k = nextT B S t := ⟨_, rfl⟩
  rw [← hk] at hk4 hnx hf2
  have HN := Lib.hid (fun w => next_in w rk m k hm hm4 hnx)
  have HSl := Lib.hid (fun w => slab_still w k hk4)
  have hp6 := hL.pool (show k < 6 by omega)
  have hu6 := hU k (by omega)
  have sl0 := slab_lo k
  have sl1 := slab_hi k
  have HT := Lib.hid (fun w => take_full w B S U C T L (slab k) k (by omega) (by omega) hu6.1 hu6.2 (by omega) (by omega))
  obtain ⟨s, hs⟩ : ∃ s, s = slab k := ⟨_, rfl⟩
  rw [← hs] at HSl HT sl0 sl1
  obtain ⟨lk, hlk⟩ : ∃ lk, lk = B k + U k := ⟨_, rfl⟩
  have hlk0 : 0 ≤ lk ∧ lk ≤ 65536 := by omega
  obtain ⟨lk0, lk1⟩ := hlk0
  have s1 : IntKind.i64.wrap (lk + 1) = lk + 1 := IntWalk.i64_in _ (by omega)
  have s2 : IntKind.u32.wrap t = t := IntWalk.u32_in _ (by omega)
  have HV := Lib.hid (show u32 v = v ∧ u32 t = t from ⟨u32_in ⟨v0, by omega⟩, u32_in ⟨ht0, by omega⟩⟩)
  clear hrk hrf HQ hr hL hm hm4 hnx m v0 v1 hk hs hlk hp6 hu6 hU hl hf2
  have hP := PW.start hrm B S U C T L
  have HF := Lib.hid hf
  clear hrm hf
  go_enter Try.func25, Try.ntmps25
  go_upto_region 1 with fail
  have hw : (((w.alloc (.cells (planC B S C T L) 29)).alloc (.cells (six U) 27)).alloc (.cells #[.int .i64 0, .int .i64 0, .int .i64 0, .int .i64 0, .int .i64 0, .int .i64 0] 27)) = (((w.alloc (.cells (planC B S C T L) 29)).alloc (.cells (six U) 27)).alloc (.cells (six fun _ => 0) 27)) := rfl
  rw [hw]
  clear hw
  generalize (((w.alloc (.cells (planC B S C T L) 29)).alloc (.cells (six U) 27)).alloc (.cells (six fun _ => 0) 27)) = w1 at hP ⊢
  have HP := Lib.hid hP
  clear hP
  go_wp2_with (refine wpList_load_row rfl 29 (.tmp 6) rfl w.heap.size rfl 29 (planC B S C T L) (0, 0) _ HP.out.p Try.underlying29 rfl (planC_info _ _ _ _ _) ?_)
  refine (HRm.out _).mono ?_; rintro e w2 ⟨rfl, hb⟩
  have HP := Lib.hid (HP.out.below hb)
  clear hb HRm
  go_wp2_with fail
  refine (HN.out _).mono ?_; rintro e w3 ⟨rfl, rfl⟩
  clear HN
  go_upto_region 8 with fail
  go_cut [16, 17, 18] (fun lv pv ev wx => ∃ q, lv = .int .i64 0 ∧ pv = .pointer (some ⟨q, 0, none⟩) ∧ ev = .int .i64 3 ∧ w.heap.size + 1 + 1 < q ∧ Hid (wx.heap[q]? = some (.cells (six (fun _ => 0)) 27 (0, 0))) ∧ Hid (PW w rb mb cb go B S U C T L st go wx))
  case first =>
    refine wp_region_by (fun (q : Nat) j => [.agg (planC B S C T L), .agg (six U), .int .i64 (k : Int), .int .i64 (k : Int), .int .i64 s, .tuple #[.int .i64 0, .agg (six (fun _ => 0)), .int .i64 3], .tuple #[.int .i64 0, .agg (six (fun _ => 0)), .int .i64 3], .int .i64 0, .agg (six (fun _ => 0)), .int .i64 3, .pointer (some ⟨q, 0, none⟩), .int .i64 0, undef, .int .i64 3].getD j undef)
      (fun q l wx => PW w rb mb cb go B S U C T L st go wx ∧ (l 12 = true → l 10 = true) ∧ (l 10 = true → w.heap.size + 1 + 1 < q ∧ wx.heap[q]? = some (.cells (six (if l 12 then (fun _ => 0) else fun _ => 0)) 27 (0, 0))))
      (by kernel_rfl) (by kernel_rfl) (fun q => by simp only [putTo, dstOf, Act.put, List.size_toArray, List.length_cons, List.length_nil, List.getElem?_toArray, Nat.reduceAdd, Option.bind_some, List.getElem?_cons_zero, List.getElem?_cons_succ, List.setIfInBounds_toArray, List.set_cons_zero, List.set_cons_succ, List.getD_cons_zero, List.getD_cons_succ]; exact rfl) 0 ?_ ?_ ?_
    · exact ⟨HP.out.drew, (fun h => by cases h), fun h => by cases h⟩
    · intro i o ho q l wx hR hl he K hK
      have hsz := lt_of_heap hR.1.r
      have hbel : ∀ w2 : World, Below wx.heap.size wx w2 → PW w rb mb cb go B S U C T L st go w2 ∧ (l 12 = true → l 10 = true) ∧ (l 10 = true → w.heap.size + 1 + 1 < q ∧ w2.heap[q]? = some (.cells (six (if l 12 then (fun _ => 0) else fun _ => 0)) 27 (0, 0))) := fun w2 hb2 => ⟨hR.1.below hb2, hR.2.1, fun h6 => ⟨(hR.2.2 h6).1, (hb2.block q (lt_of_heap (hR.2.2 h6).2)).trans (hR.2.2 h6).2⟩⟩
      rcases i with _ | _ | _ | _ | _ | _ | _ | _ | _ | _ | _ | _ | _ | _ | i
      · obtain rfl : _ = o := Option.some.inj ho
        exact region_load_row rfl 29 (.tmp 6) rfl w.heap.size rfl 29 (planC B S C T L) (0, 0) _ hR.1.p Try.underlying29 rfl (planC_info _ _ _ _ _) (hK q wx (fun _ _ => rfl) hR)
      · obtain rfl : _ = o := Option.some.inj ho
        exact region_load_row rfl 27 (.tmp 7) rfl (w.heap.size + 1) rfl 27 (six U) (0, 0) _ hR.1.u Try.underlying27 rfl (six_info _) (hK q wx (fun _ _ => rfl) hR)
      · obtain rfl : _ = o := Option.some.inj ho
        go_simp
        exact hK q wx (fun _ _ => rfl) hR
      · obtain rfl : _ = o := Option.some.inj ho
        go_simp
        exact hK q wx (fun _ _ => rfl) hR
      · obtain rfl : _ = o := Option.some.inj ho
        go_simp
        refine (HSl.out _).mono ?_; rintro e w2 ⟨rfl, rfl⟩
        exact hK q _ (fun _ _ => rfl) hR
      · obtain rfl : _ = o := Option.some.inj ho
        go_simp
        refine (HT.out _).mono ?_; rintro e w2 ⟨rfl, hb2⟩
        exact hK q w2 (fun _ _ => rfl) (hbel w2 hb2)
      · obtain rfl : _ = o := Option.some.inj ho
        go_simp
        exact hK q wx (fun _ _ => rfl) hR
      · obtain rfl : _ = o := Option.some.inj ho
        go_simp
        exact hK q wx (fun _ _ => rfl) hR
      · obtain rfl : _ = o := Option.some.inj ho
        go_simp
        exact hK q wx (fun _ _ => rfl) hR
      · obtain rfl : _ = o := Option.some.inj ho
        go_simp
        exact hK q wx (fun _ _ => rfl) hR
      · obtain rfl : _ = o := Option.some.inj ho
        go_simp
        refine hK wx.heap.size _ (fun j hj => ?_) ⟨hR.1.below below_one, (fun _ => rfl), fun _ => ⟨by omega, ?_⟩⟩
        · rcases j with _ | _ | _ | _ | _ | _ | _ | _ | _ | _ | _ | _ | _ | _ | j
          all_goals first | rfl | (rw [hl] at hj; cases hj)
        · have h12 : l 12 = false := by
            cases h : l 12 with
            | false => rfl
            | true => have := hR.2.1 h; rw [hl] at this; cases this
          rw [if_neg (by show ¬ ((12 == 10 || l 12) = true); rw [h12]; decide)]
          exact heap_alloc_new _ _
      · obtain rfl : _ = o := Option.some.inj ho
        go_simp
        exact hK q wx (fun _ _ => rfl) hR
      · obtain rfl : _ = o := Option.some.inj ho
        have h10 := he ⟨10, .data⟩ (by simp) rfl
        obtain ⟨hq1, hq2⟩ := hR.2.2 h10
        rw [if_neg (by rw [hl]; decide)] at hq2
        refine wp_store_row 27 (.tmp 17) (.tmp 49) rfl q (six (fun _ => 0)) rfl rfl 27 _ hq2 (six_info _) (six_both _ _) (six_one _) ?_
        exact hK q _ (fun _ _ => rfl) ⟨hR.1.setRow hq2 hq1 _, (fun _ => h10), fun _ => ⟨hq1, setRow_heap _ _ _ _ _ _ hq2⟩⟩
      · obtain rfl : _ = o := Option.some.inj ho
        go_simp
        exact hK q wx (fun _ _ => rfl) hR
      · simp at ho
    · intro q l wx hl hR
      have h10 := hl 10 (by decide)
      have h12 := hl 12 (by decide)
      obtain ⟨hq1, hq2⟩ := hR.2.2 h10
      rw [if_pos h12] at hq2
      have HR1 := Lib.hid hR.1
      have HQ2 := Lib.hid hq2
      clear hR hq2 HP HSl HT
      go_wp2_with fail
      go_meet
      exact ⟨q, rfl, rfl, rfl, hq1, HQ2, HR1⟩
  case rest =>
    clear HP HSl HT
    obtain ⟨q, rfl, rfl, rfl, hq1, HQ2, HP⟩ := hcut
    go_wp2_with (refine wpList_store_row rfl 27 (.tmp 11) (.tmp 53) rfl (w.heap.size + 1 + 1) (six fun _ => 0) rfl rfl 27 (six fun _ => 0) HP.out.r (six_info _) (six_both _ _) (six_one _) ?_)
    refine bodyPost_ret (v := .tuple #[.int .i64 0, .agg (six fun _ => 0), .int .i64 3]) (results_tmp_cell_tmp rfl _ _ (w.heap.size + 1 + 1) _ _ (0, 0) _ _ _ rfl rfl rfl (setRow_heap _ _ _ _ _ _ HP.out.r) Try.underlying27 rfl (six_info _)) rfl ?_
    obtain ⟨hr, ha⟩ := HP.out.turn HP.out.r (by omega) (six fun _ => 0)
    exact ⟨0, fun _ => 0, 3, go, rfl, hr, ha, fun x hx => by cases hx; exact ⟨rfl, rfl, rfl⟩⟩
set_option maxRecDepth 100000 in
set_option maxHeartbeats 1000000 in
theorem put_new (hrm : RM w rb mb cb go true st) (hf : st.Fine Bd) (hB : Bd < 1000000000) (hL : Laid B S C) (hU : ∀ k, k < 6 → 0 ≤ U k ∧ U k ≤ S k) (hr : rightT B S t) (hl : leftT B S t = 0) (hf2 : slab (nextT B S t) ≤ S (nextT B S t) - U (nextT B S t)) (hz : t = 0) (v0 : 0 ≤ v) (v1 : v ≤ 4294967295) : Calls Try.prog 25 #[.pointer (some ⟨rb, 0, none⟩), .agg (planC B S C T L), .agg (six U), .int .i64 t, .int .u32 v] w fun e w' => PutDone w rb mb cb go st (putP B S U t v) e w' := by
  have HQ := Lib.hid (putP_new (U := U) (v := v) hr hl rfl hf2 hz)
  rw [HQ.out]
  have HRm := Lib.hid (fun w => room_any hL T L t w)
  obtain ⟨hrf, m, hm, hm4, hnx⟩ := room_right hL hr
  rw [decide_eq_true hr, hrf] at HRm
  rw [hl] at HRm
  have hk4 : nextT B S t < 4 := (leftT_in hL hr).2.2
  have ht : 0 ≤ t ∧ t ≤ 65536 := by
    rcases hr with h | h
    · omega
    · have := hL.at_ h
      have := hL.c1
      omega
  obtain ⟨ht0, ht1⟩ := ht
  obtain ⟨rk, hrk⟩ : ∃ rk, rk = roomK B S t := ⟨_, rfl⟩
  rw [← hrk] at HRm hm
  obtain ⟨k, hk⟩ : ∃ k, k = nextT B S t := ⟨_, rfl⟩
  rw [← hk] at hk4 hnx hf2 ⊢
  have HN := Lib.hid (fun w => next_in w rk m k hm hm4 hnx)
  have HSl := Lib.hid (fun w => slab_still w k hk4)
  have hp6 := hL.pool (show k < 6 by omega)
  have hu6 := hU k (by omega)
  have sl0 := slab_lo k
  have sl1 := slab_hi k
  have HT := Lib.hid (fun w => take_ok w B S U C T L (slab k) k (by omega) (by omega) hu6.1 hu6.2 (by omega) (by omega) (by omega) (by omega))
  obtain ⟨s, hs⟩ : ∃ s, s = slab k := ⟨_, rfl⟩
  rw [← hs] at HSl HT sl0 sl1 hf2 ⊢
  obtain ⟨lk, hlk⟩ : ∃ lk, lk = B k + U k := ⟨_, rfl⟩
  obtain ⟨V, hV⟩ : ∃ V, V = more U k s := ⟨_, rfl⟩
  rw [← hlk] at HT ⊢
  rw [← hV] at HT ⊢
  clear hV
  have hlk0 : 0 ≤ lk ∧ lk ≤ 65536 := by omega
  obtain ⟨lk0, lk1⟩ := hlk0
  have s1 : IntKind.i64.wrap (lk + 1) = lk + 1 := IntWalk.i64_in _ (by omega)
  have HZ := Lib.hid hz
  clear hz
  have s2 : IntKind.u32.wrap t = t := IntWalk.u32_in _ (by omega)
  have HV := Lib.hid (show u32 v = v ∧ u32 t = t from ⟨u32_in ⟨v0, by omega⟩, u32_in ⟨ht0, by omega⟩⟩)
  clear hrk hrf HQ hr hL hm hm4 hnx m v0 v1 hk hs hlk hp6 hu6 hU hl hf2
  have hP := PW.start hrm B S U C T L
  have HF := Lib.hid hf
  clear hrm hf
  go_enter Try.func25, Try.ntmps25
  go_upto_region 1 with fail
  have hw : (((w.alloc (.cells (planC B S C T L) 29)).alloc (.cells (six U) 27)).alloc (.cells #[.int .i64 0, .int .i64 0, .int .i64 0, .int .i64 0, .int .i64 0, .int .i64 0] 27)) = (((w.alloc (.cells (planC B S C T L) 29)).alloc (.cells (six U) 27)).alloc (.cells (six fun _ => 0) 27)) := rfl
  rw [hw]
  clear hw
  generalize (((w.alloc (.cells (planC B S C T L) 29)).alloc (.cells (six U) 27)).alloc (.cells (six fun _ => 0) 27)) = w1 at hP ⊢
  have HP := Lib.hid hP
  clear hP
  go_wp2_with (refine wpList_load_row rfl 29 (.tmp 6) rfl w.heap.size rfl 29 (planC B S C T L) (0, 0) _ HP.out.p Try.underlying29 rfl (planC_info _ _ _ _ _) ?_)
  refine (HRm.out _).mono ?_; rintro e w2 ⟨rfl, hb⟩
  have HP := Lib.hid (HP.out.below hb)
  clear hb HRm
  go_wp2_with fail
  refine (HN.out _).mono ?_; rintro e w3 ⟨rfl, rfl⟩
  clear HN
  go_upto_region 8 with fail
  go_cut [16, 17, 18] (fun lv pv ev wx => ∃ q, lv = .int .i64 lk ∧ pv = .pointer (some ⟨q, 0, none⟩) ∧ ev = .int .i64 0 ∧ w.heap.size + 1 + 1 < q ∧ Hid (wx.heap[q]? = some (.cells (six (V)) 27 (0, 0))) ∧ Hid (PW w rb mb cb go B S U C T L st go wx))
  case first =>
    refine wp_region_by (fun (q : Nat) j => [.agg (planC B S C T L), .agg (six U), .int .i64 (k : Int), .int .i64 (k : Int), .int .i64 s, .tuple #[.int .i64 lk, .agg (six (V)), .int .i64 0], .tuple #[.int .i64 lk, .agg (six (V)), .int .i64 0], .int .i64 lk, .agg (six (V)), .int .i64 0, .pointer (some ⟨q, 0, none⟩), .int .i64 lk, undef, .int .i64 0].getD j undef)
      (fun q l wx => PW w rb mb cb go B S U C T L st go wx ∧ (l 12 = true → l 10 = true) ∧ (l 10 = true → w.heap.size + 1 + 1 < q ∧ wx.heap[q]? = some (.cells (six (if l 12 then (V) else fun _ => 0)) 27 (0, 0))))
      (by kernel_rfl) (by kernel_rfl) (fun q => by simp only [putTo, dstOf, Act.put, List.size_toArray, List.length_cons, List.length_nil, List.getElem?_toArray, Nat.reduceAdd, Option.bind_some, List.getElem?_cons_zero, List.getElem?_cons_succ, List.setIfInBounds_toArray, List.set_cons_zero, List.set_cons_succ, List.getD_cons_zero, List.getD_cons_succ]; exact rfl) 0 ?_ ?_ ?_
    · exact ⟨HP.out.drew, (fun h => by cases h), fun h => by cases h⟩
    · intro i o ho q l wx hR hl he K hK
      have hsz := lt_of_heap hR.1.r
      have hbel : ∀ w2 : World, Below wx.heap.size wx w2 → PW w rb mb cb go B S U C T L st go w2 ∧ (l 12 = true → l 10 = true) ∧ (l 10 = true → w.heap.size + 1 + 1 < q ∧ w2.heap[q]? = some (.cells (six (if l 12 then (V) else fun _ => 0)) 27 (0, 0))) := fun w2 hb2 => ⟨hR.1.below hb2, hR.2.1, fun h6 => ⟨(hR.2.2 h6).1, (hb2.block q (lt_of_heap (hR.2.2 h6).2)).trans (hR.2.2 h6).2⟩⟩
      rcases i with _ | _ | _ | _ | _ | _ | _ | _ | _ | _ | _ | _ | _ | _ | i
      · obtain rfl : _ = o := Option.some.inj ho
        exact region_load_row rfl 29 (.tmp 6) rfl w.heap.size rfl 29 (planC B S C T L) (0, 0) _ hR.1.p Try.underlying29 rfl (planC_info _ _ _ _ _) (hK q wx (fun _ _ => rfl) hR)
      · obtain rfl : _ = o := Option.some.inj ho
        exact region_load_row rfl 27 (.tmp 7) rfl (w.heap.size + 1) rfl 27 (six U) (0, 0) _ hR.1.u Try.underlying27 rfl (six_info _) (hK q wx (fun _ _ => rfl) hR)
      · obtain rfl : _ = o := Option.some.inj ho
        go_simp
        exact hK q wx (fun _ _ => rfl) hR
      · obtain rfl : _ = o := Option.some.inj ho
        go_simp
        exact hK q wx (fun _ _ => rfl) hR
      · obtain rfl : _ = o := Option.some.inj ho
        go_simp
        refine (HSl.out _).mono ?_; rintro e w2 ⟨rfl, rfl⟩
        exact hK q _ (fun _ _ => rfl) hR
      · obtain rfl : _ = o := Option.some.inj ho
        go_simp
        refine (HT.out _).mono ?_; rintro e w2 ⟨rfl, hb2⟩
        exact hK q w2 (fun _ _ => rfl) (hbel w2 hb2)
      · obtain rfl : _ = o := Option.some.inj ho
        go_simp
        exact hK q wx (fun _ _ => rfl) hR
      · obtain rfl : _ = o := Option.some.inj ho
        go_simp
        exact hK q wx (fun _ _ => rfl) hR
      · obtain rfl : _ = o := Option.some.inj ho
        go_simp
        exact hK q wx (fun _ _ => rfl) hR
      · obtain rfl : _ = o := Option.some.inj ho
        go_simp
        exact hK q wx (fun _ _ => rfl) hR
      · obtain rfl : _ = o := Option.some.inj ho
        go_simp
        refine hK wx.heap.size _ (fun j hj => ?_) ⟨hR.1.below below_one, (fun _ => rfl), fun _ => ⟨by omega, ?_⟩⟩
        · rcases j with _ | _ | _ | _ | _ | _ | _ | _ | _ | _ | _ | _ | _ | _ | j
          all_goals first | rfl | (rw [hl] at hj; cases hj)
        · have h12 : l 12 = false := by
            cases h : l 12 with
            | false => rfl
            | true => have := hR.2.1 h; rw [hl] at this; cases this
          rw [if_neg (by show ¬ ((12 == 10 || l 12) = true); rw [h12]; decide)]
          exact heap_alloc_new _ _
      · obtain rfl : _ = o := Option.some.inj ho
        go_simp
        exact hK q wx (fun _ _ => rfl) hR
      · obtain rfl : _ = o := Option.some.inj ho
        have h10 := he ⟨10, .data⟩ (by simp) rfl
        obtain ⟨hq1, hq2⟩ := hR.2.2 h10
        rw [if_neg (by rw [hl]; decide)] at hq2
        refine wp_store_row 27 (.tmp 17) (.tmp 49) rfl q (six (V)) rfl rfl 27 _ hq2 (six_info _) (six_both _ _) (six_one _) ?_
        exact hK q _ (fun _ _ => rfl) ⟨hR.1.setRow hq2 hq1 _, (fun _ => h10), fun _ => ⟨hq1, setRow_heap _ _ _ _ _ _ hq2⟩⟩
      · obtain rfl : _ = o := Option.some.inj ho
        go_simp
        exact hK q wx (fun _ _ => rfl) hR
      · simp at ho
    · intro q l wx hl hR
      have h10 := hl 10 (by decide)
      have h12 := hl 12 (by decide)
      obtain ⟨hq1, hq2⟩ := hR.2.2 h10
      rw [if_pos h12] at hq2
      have HR1 := Lib.hid hR.1
      have HQ2 := Lib.hid hq2
      clear hR hq2 HP HSl HT
      go_wp2_with fail
      go_meet
      exact ⟨q, rfl, rfl, rfl, hq1, HQ2, HR1⟩
  case rest =>
    clear HP HSl HT
    obtain ⟨q, rfl, rfl, rfl, hq1, HQ2, HP⟩ := hcut
    have hzb : (t != 0) = false := by simp [HZ.out]
    have HK := Lib.hid (run_store HP.out.rm hB HF.out.ok (lk + 1) v)
    go_wp2_with fail
    refine HK.out.mono ?_
    clear HK
    rintro e w9 ⟨rfl, go3, hr3, ha3⟩
    have HQ2 := Lib.hid (HP.out.stays ha3 HQ2.out (by omega) (by decide))
    have HP := Lib.hid (HP.out.access hr3 ha3)
    clear hr3 ha3
    go_upto_region 14 with fail
    have e0 : w9.cell? ⟨q, 0, none⟩ = some (.int .i64 ((V) 0)) := cell_at HQ2.out 0
    have e1 : w9.cell? ⟨q, 1, none⟩ = some (.int .i64 ((V) 1)) := cell_at HQ2.out 1
    have e2 : w9.cell? ⟨q, 2, none⟩ = some (.int .i64 ((V) 2)) := cell_at HQ2.out 2
    have e3 : w9.cell? ⟨q, 3, none⟩ = some (.int .i64 ((V) 3)) := cell_at HQ2.out 3
    have e4 : w9.cell? ⟨q, 4, none⟩ = some (.int .i64 ((V) 4)) := cell_at HQ2.out 4
    have e5 : w9.cell? ⟨q, 5, none⟩ = some (.int .i64 ((V) 5)) := cell_at HQ2.out 5
    go_still_tail 4, (by kernel_rfl)
    change wpList _ _ _ _ _ w9.drew
    clear e0 e1 e2 e3 e4 e5
    go_wp2_with (first
      | (refine wpList_store_row rfl 27 (.tmp 11) (.tmp 69) rfl (w.heap.size + 1 + 1) (six V) rfl rfl 27 (six fun _ => 0) (show w9.drew.heap[w.heap.size + 1 + 1]? = _ from HP.out.r) (six_info _) (six_both _ _) (six_one _) ?_)
      | fail)
    refine bodyPost_ret (v := .tuple #[.int .i64 (lk + 1), .agg (six V), .int .i64 0]) (results_tmp_cell_tmp rfl _ _ (w.heap.size + 1 + 1) _ _ (0, 0) _ _ _ rfl rfl rfl (setRow_heap _ _ _ _ _ _ (show w9.drew.heap[w.heap.size + 1 + 1]? = _ from HP.out.r)) Try.underlying27 rfl (six_info _)) rfl ?_
    obtain ⟨hr, ha⟩ := HP.out.drew.turn HP.out.r (by omega) (six V)
    have ho := on_one (st := st) (lk + 1) v ((lk + 1, V, 0) : PutR)
    rw [HV.out.1] at ho
    exact ⟨_, _, _, go3, rfl, by rw [ho.1]; exact hr, ha, fun x hx => by rw [ho.2 x hx]; exact ⟨rfl, rfl, rfl⟩⟩
theorem St.Fine.store_in {st : St} {Bd : Nat} {x : Int} (h : st.Fine Bd) (hx : u32 x = x) (a : Int) : (st.store a x).Fine Bd := by
  have := h.store a x
  rwa [hx] at this
set_option maxRecDepth 100000 in
set_option maxHeartbeats 1000000 in
theorem put_more (hrm : RM w rb mb cb go true st) (hf : st.Fine Bd) (hB : Bd < 1000000000) (hL : Laid B S C) (hU : ∀ k, k < 6 → 0 ≤ U k ∧ U k ≤ S k) (hr : rightT B S t) (hl : leftT B S t = 0) (hf2 : slab (nextT B S t) ≤ S (nextT B S t) - U (nextT B S t)) (hz : t ≠ 0) (v0 : 0 ≤ v) (v1 : v ≤ 4294967295) : Calls Try.prog 25 #[.pointer (some ⟨rb, 0, none⟩), .agg (planC B S C T L), .agg (six U), .int .i64 t, .int .u32 v] w fun e w' => PutDone w rb mb cb go st (putP B S U t v) e w' := by
  have HQ := Lib.hid (putP_more (U := U) (v := v) hr hl rfl hf2 hz)
  rw [HQ.out]
  have HRm := Lib.hid (fun w => room_any hL T L t w)
  obtain ⟨hrf, m, hm, hm4, hnx⟩ := room_right hL hr
  rw [decide_eq_true hr, hrf] at HRm
  rw [hl] at HRm
  have hk4 : nextT B S t < 4 := (leftT_in hL hr).2.2
  have ht : 0 ≤ t ∧ t ≤ 65536 := by
    rcases hr with h | h
    · omega
    · have := hL.at_ h
      have := hL.c1
      omega
  obtain ⟨ht0, ht1⟩ := ht
  obtain ⟨rk, hrk⟩ : ∃ rk, rk = roomK B S t := ⟨_, rfl⟩
  rw [← hrk] at HRm hm
  obtain ⟨k, hk⟩ : ∃ k, k = nextT B S t := ⟨_, rfl⟩
  rw [← hk] at hk4 hnx hf2 ⊢
  have HN := Lib.hid (fun w => next_in w rk m k hm hm4 hnx)
  have HSl := Lib.hid (fun w => slab_still w k hk4)
  have hp6 := hL.pool (show k < 6 by omega)
  have hu6 := hU k (by omega)
  have sl0 := slab_lo k
  have sl1 := slab_hi k
  have HT := Lib.hid (fun w => take_ok w B S U C T L (slab k) k (by omega) (by omega) hu6.1 hu6.2 (by omega) (by omega) (by omega) (by omega))
  obtain ⟨s, hs⟩ : ∃ s, s = slab k := ⟨_, rfl⟩
  rw [← hs] at HSl HT sl0 sl1 hf2 ⊢
  obtain ⟨lk, hlk⟩ : ∃ lk, lk = B k + U k := ⟨_, rfl⟩
  obtain ⟨V, hV⟩ : ∃ V, V = more U k s := ⟨_, rfl⟩
  rw [← hlk] at HT ⊢
  rw [← hV] at HT ⊢
  clear hV
  have hlk0 : 0 ≤ lk ∧ lk ≤ 65536 := by omega
  obtain ⟨lk0, lk1⟩ := hlk0
  have s1 : IntKind.i64.wrap (lk + 1) = lk + 1 := IntWalk.i64_in _ (by omega)
  have s2 : IntKind.u32.wrap t = t := IntWalk.u32_in _ (by omega)
  have HV := Lib.hid (show u32 v = v ∧ u32 t = t from ⟨u32_in ⟨v0, by omega⟩, u32_in ⟨ht0, by omega⟩⟩)
  clear hrk hrf HQ hr hL hm hm4 hnx m v0 v1 hk hs hlk hp6 hu6 hU hl hf2
  have hP := PW.start hrm B S U C T L
  have HF := Lib.hid hf
  clear hrm hf
  go_enter Try.func25, Try.ntmps25
  go_upto_region 1 with fail
  have hw : (((w.alloc (.cells (planC B S C T L) 29)).alloc (.cells (six U) 27)).alloc (.cells #[.int .i64 0, .int .i64 0, .int .i64 0, .int .i64 0, .int .i64 0, .int .i64 0] 27)) = (((w.alloc (.cells (planC B S C T L) 29)).alloc (.cells (six U) 27)).alloc (.cells (six fun _ => 0) 27)) := rfl
  rw [hw]
  clear hw
  generalize (((w.alloc (.cells (planC B S C T L) 29)).alloc (.cells (six U) 27)).alloc (.cells (six fun _ => 0) 27)) = w1 at hP ⊢
  have HP := Lib.hid hP
  clear hP
  go_wp2_with (refine wpList_load_row rfl 29 (.tmp 6) rfl w.heap.size rfl 29 (planC B S C T L) (0, 0) _ HP.out.p Try.underlying29 rfl (planC_info _ _ _ _ _) ?_)
  refine (HRm.out _).mono ?_; rintro e w2 ⟨rfl, hb⟩
  have HP := Lib.hid (HP.out.below hb)
  clear hb HRm
  go_wp2_with fail
  refine (HN.out _).mono ?_; rintro e w3 ⟨rfl, rfl⟩
  clear HN
  go_upto_region 8 with fail
  go_cut [16, 17, 18] (fun lv pv ev wx => ∃ q, lv = .int .i64 lk ∧ pv = .pointer (some ⟨q, 0, none⟩) ∧ ev = .int .i64 0 ∧ w.heap.size + 1 + 1 < q ∧ Hid (wx.heap[q]? = some (.cells (six (V)) 27 (0, 0))) ∧ Hid (PW w rb mb cb go B S U C T L st go wx))
  case first =>
    refine wp_region_by (fun (q : Nat) j => [.agg (planC B S C T L), .agg (six U), .int .i64 (k : Int), .int .i64 (k : Int), .int .i64 s, .tuple #[.int .i64 lk, .agg (six (V)), .int .i64 0], .tuple #[.int .i64 lk, .agg (six (V)), .int .i64 0], .int .i64 lk, .agg (six (V)), .int .i64 0, .pointer (some ⟨q, 0, none⟩), .int .i64 lk, undef, .int .i64 0].getD j undef)
      (fun q l wx => PW w rb mb cb go B S U C T L st go wx ∧ (l 12 = true → l 10 = true) ∧ (l 10 = true → w.heap.size + 1 + 1 < q ∧ wx.heap[q]? = some (.cells (six (if l 12 then (V) else fun _ => 0)) 27 (0, 0))))
      (by kernel_rfl) (by kernel_rfl) (fun q => by simp only [putTo, dstOf, Act.put, List.size_toArray, List.length_cons, List.length_nil, List.getElem?_toArray, Nat.reduceAdd, Option.bind_some, List.getElem?_cons_zero, List.getElem?_cons_succ, List.setIfInBounds_toArray, List.set_cons_zero, List.set_cons_succ, List.getD_cons_zero, List.getD_cons_succ]; exact rfl) 0 ?_ ?_ ?_
    · exact ⟨HP.out.drew, (fun h => by cases h), fun h => by cases h⟩
    · intro i o ho q l wx hR hl he K hK
      have hsz := lt_of_heap hR.1.r
      have hbel : ∀ w2 : World, Below wx.heap.size wx w2 → PW w rb mb cb go B S U C T L st go w2 ∧ (l 12 = true → l 10 = true) ∧ (l 10 = true → w.heap.size + 1 + 1 < q ∧ w2.heap[q]? = some (.cells (six (if l 12 then (V) else fun _ => 0)) 27 (0, 0))) := fun w2 hb2 => ⟨hR.1.below hb2, hR.2.1, fun h6 => ⟨(hR.2.2 h6).1, (hb2.block q (lt_of_heap (hR.2.2 h6).2)).trans (hR.2.2 h6).2⟩⟩
      rcases i with _ | _ | _ | _ | _ | _ | _ | _ | _ | _ | _ | _ | _ | _ | i
      · obtain rfl : _ = o := Option.some.inj ho
        exact region_load_row rfl 29 (.tmp 6) rfl w.heap.size rfl 29 (planC B S C T L) (0, 0) _ hR.1.p Try.underlying29 rfl (planC_info _ _ _ _ _) (hK q wx (fun _ _ => rfl) hR)
      · obtain rfl : _ = o := Option.some.inj ho
        exact region_load_row rfl 27 (.tmp 7) rfl (w.heap.size + 1) rfl 27 (six U) (0, 0) _ hR.1.u Try.underlying27 rfl (six_info _) (hK q wx (fun _ _ => rfl) hR)
      · obtain rfl : _ = o := Option.some.inj ho
        go_simp
        exact hK q wx (fun _ _ => rfl) hR
      · obtain rfl : _ = o := Option.some.inj ho
        go_simp
        exact hK q wx (fun _ _ => rfl) hR
      · obtain rfl : _ = o := Option.some.inj ho
        go_simp
        refine (HSl.out _).mono ?_; rintro e w2 ⟨rfl, rfl⟩
        exact hK q _ (fun _ _ => rfl) hR
      · obtain rfl : _ = o := Option.some.inj ho
        go_simp
        refine (HT.out _).mono ?_; rintro e w2 ⟨rfl, hb2⟩
        exact hK q w2 (fun _ _ => rfl) (hbel w2 hb2)
      · obtain rfl : _ = o := Option.some.inj ho
        go_simp
        exact hK q wx (fun _ _ => rfl) hR
      · obtain rfl : _ = o := Option.some.inj ho
        go_simp
        exact hK q wx (fun _ _ => rfl) hR
      · obtain rfl : _ = o := Option.some.inj ho
        go_simp
        exact hK q wx (fun _ _ => rfl) hR
      · obtain rfl : _ = o := Option.some.inj ho
        go_simp
        exact hK q wx (fun _ _ => rfl) hR
      · obtain rfl : _ = o := Option.some.inj ho
        go_simp
        refine hK wx.heap.size _ (fun j hj => ?_) ⟨hR.1.below below_one, (fun _ => rfl), fun _ => ⟨by omega, ?_⟩⟩
        · rcases j with _ | _ | _ | _ | _ | _ | _ | _ | _ | _ | _ | _ | _ | _ | j
          all_goals first | rfl | (rw [hl] at hj; cases hj)
        · have h12 : l 12 = false := by
            cases h : l 12 with
            | false => rfl
            | true => have := hR.2.1 h; rw [hl] at this; cases this
          rw [if_neg (by show ¬ ((12 == 10 || l 12) = true); rw [h12]; decide)]
          exact heap_alloc_new _ _
      · obtain rfl : _ = o := Option.some.inj ho
        go_simp
        exact hK q wx (fun _ _ => rfl) hR
      · obtain rfl : _ = o := Option.some.inj ho
        have h10 := he ⟨10, .data⟩ (by simp) rfl
        obtain ⟨hq1, hq2⟩ := hR.2.2 h10
        rw [if_neg (by rw [hl]; decide)] at hq2
        refine wp_store_row 27 (.tmp 17) (.tmp 49) rfl q (six (V)) rfl rfl 27 _ hq2 (six_info _) (six_both _ _) (six_one _) ?_
        exact hK q _ (fun _ _ => rfl) ⟨hR.1.setRow hq2 hq1 _, (fun _ => h10), fun _ => ⟨hq1, setRow_heap _ _ _ _ _ _ hq2⟩⟩
      · obtain rfl : _ = o := Option.some.inj ho
        go_simp
        exact hK q wx (fun _ _ => rfl) hR
      · simp at ho
    · intro q l wx hl hR
      have h10 := hl 10 (by decide)
      have h12 := hl 12 (by decide)
      obtain ⟨hq1, hq2⟩ := hR.2.2 h10
      rw [if_pos h12] at hq2
      have HR1 := Lib.hid hR.1
      have HQ2 := Lib.hid hq2
      clear hR hq2 HP HSl HT
      go_wp2_with fail
      go_meet
      exact ⟨q, rfl, rfl, rfl, hq1, HQ2, HR1⟩
  case rest =>
    clear HP HSl HT
    obtain ⟨q, rfl, rfl, rfl, hq1, HQ2, HP⟩ := hcut
    have hzb : (t != 0) = true := by simpa using hz
    have HK := Lib.hid (run_store HP.out.rm hB HF.out.ok lk t)
    go_wp2_with fail
    refine HK.out.mono ?_
    clear HK
    rintro e w8 ⟨rfl, go3, hr3, ha3⟩
    have HQ2 := Lib.hid (HP.out.stays ha3 HQ2.out (by omega) (by decide))
    have HP := Lib.hid (HP.out.access hr3 ha3)
    clear hr3 ha3
    have HK := Lib.hid (run_store HP.out.rm hB (HF.out.store_in HV.out.2 lk).ok (lk + 1) v)
    go_wp2_with fail
    refine HK.out.mono ?_
    clear HK
    rintro e w9 ⟨rfl, go4, hr3, ha3⟩
    have HQ2 := Lib.hid (HP.out.stays ha3 HQ2.out (by omega) (by decide))
    have HP := Lib.hid (HP.out.access hr3 ha3)
    clear hr3 ha3
    go_upto_region 14 with fail
    have e0 : w9.cell? ⟨q, 0, none⟩ = some (.int .i64 ((V) 0)) := cell_at HQ2.out 0
    have e1 : w9.cell? ⟨q, 1, none⟩ = some (.int .i64 ((V) 1)) := cell_at HQ2.out 1
    have e2 : w9.cell? ⟨q, 2, none⟩ = some (.int .i64 ((V) 2)) := cell_at HQ2.out 2
    have e3 : w9.cell? ⟨q, 3, none⟩ = some (.int .i64 ((V) 3)) := cell_at HQ2.out 3
    have e4 : w9.cell? ⟨q, 4, none⟩ = some (.int .i64 ((V) 4)) := cell_at HQ2.out 4
    have e5 : w9.cell? ⟨q, 5, none⟩ = some (.int .i64 ((V) 5)) := cell_at HQ2.out 5
    go_still_tail 4, (by kernel_rfl)
    change wpList _ _ _ _ _ w9.drew
    clear e0 e1 e2 e3 e4 e5
    go_wp2_with (first
      | (refine wpList_store_row rfl 27 (.tmp 11) (.tmp 69) rfl (w.heap.size + 1 + 1) (six V) rfl rfl 27 (six fun _ => 0) (show w9.drew.heap[w.heap.size + 1 + 1]? = _ from HP.out.r) (six_info _) (six_both _ _) (six_one _) ?_)
      | fail)
    refine bodyPost_ret (v := .tuple #[.int .i64 (lk + 1), .agg (six V), .int .i64 0]) (results_tmp_cell_tmp rfl _ _ (w.heap.size + 1 + 1) _ _ (0, 0) _ _ _ rfl rfl rfl (setRow_heap _ _ _ _ _ _ (show w9.drew.heap[w.heap.size + 1 + 1]? = _ from HP.out.r)) Try.underlying27 rfl (six_info _)) rfl ?_
    obtain ⟨hr, ha⟩ := HP.out.drew.turn HP.out.r (by omega) (six V)
    have ho := on_two HF.out lk t (lk + 1) v ((lk + 1, V, 0) : PutR)
    rw [HV.out.1, HV.out.2] at ho
    exact ⟨_, _, _, go4, rfl, by rw [ho.1]; exact hr, ha, fun x hx => by rw [ho.2 x hx]; exact ⟨rfl, rfl, rfl⟩⟩
theorem lands_put (hrm : RM w rb mb cb go true st) (hf : st.Fine Bd) (hB : Bd < 1000000000) (hL : Laid B S C) (hU : ∀ k, k < 6 → 0 ≤ U k ∧ U k ≤ S k) (v0 : 0 ≤ v) (v1 : v ≤ 4294967295) : Calls Try.prog 25 #[.pointer (some ⟨rb, 0, none⟩), .agg (planC B S C T L), .agg (six U), .int .i64 t, .int .u32 v] w fun e w' => PutDone w rb mb cb go st (putP B S U t v) e w' := by
  by_cases hr : rightT B S t
  · have hl := leftT_in hL hr
    by_cases h0 : 0 < leftT B S t
    · exact put_add hrm hf hB hL hr h0 v0 v1
    · have h1 : leftT B S t = 0 := by omega
      by_cases h2 : slab (nextT B S t) ≤ S (nextT B S t) - U (nextT B S t)
      · by_cases h3 : t = 0
        · exact put_new hrm hf hB hL hU hr h1 h2 h3 v0 v1
        · exact put_more hrm hf hB hL hU hr h1 h2 h3 v0 v1
      · exact put_full hrm hf hL hU hr h1 h2 v0 v1
  · exact put_bad hrm hf hL hr
end
end Go.Proofs.Ytiabmbkmahlhkaa
