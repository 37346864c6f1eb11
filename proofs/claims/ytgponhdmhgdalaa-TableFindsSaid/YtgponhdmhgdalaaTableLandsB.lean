/-
  What the program's Seen of layer 11 keeps. Over the program's own text.
-/
import Derived.Test.YtgponhdmhgdalaaTableLandsA
import Derived.Deep.AppendLies
import Derived.WalkMore
import Derived.Deep.LoopGhost
namespace Go.Proofs.Ytgponhdmhgdalaa
open Go.RowKit

/-! ### The program -/
def seenQ (b v : Int) : Nat → Nat → List Sn → Pr (List Sn)
  | 0, _, acc => .ret acc
  | m + 1, d, acc => .load (b + 4 * (d : Int)) fun x => if x = 0 ∨ v < x then .ret acc else
      .load (b + 4 * (d : Int) + 3) fun t => if t ≠ 0 ∧ t ≤ v then seenQ b v m (d + 1) acc else
      .load (b + 4 * (d : Int) + 1) fun i => .load (b + 4 * (d : Int) + 2) fun l => seenQ b v m (d + 1) (acc ++ [((d : Int), i, l)])
def seenR11 (b n v : Int) : Pr (List Sn) := seenQ b v n.toNat 0 []
theorem seen_does {cs : List Int} {b v : Int} (hb : 0 ≤ b) : ∀ (m d : Nat) (acc : List Sn), b + 4 * ((d + m : Nat) : Int) ≤ cs.length → ∃ k, k ≤ 4 * m ∧ Does (seenQ b v m d acc) cs k (acc ++ seenF cs b v m d) cs
  | 0, d, acc, _ => ⟨0, Nat.le_refl _, by rw [show acc ++ seenF cs b v 0 d = acc from List.append_nil _]; exact .ret _ _⟩
  | m + 1, d, acc, h => by
    have c0 : cs.getD (b + 4 * (d : Int)).toNat 0 = cellZ cs (b + 4 * (d : Int)) := rfl
    have c1 : cs.getD (b + 4 * (d : Int) + 1).toNat 0 = cellZ cs (b + 4 * (d : Int) + 1) := rfl
    have c2 : cs.getD (b + 4 * (d : Int) + 2).toNat 0 = cellZ cs (b + 4 * (d : Int) + 2) := rfl
    have c3 : cs.getD (b + 4 * (d : Int) + 3).toNat 0 = cellZ cs (b + 4 * (d : Int) + 3) := rfl
    unfold seenQ seenF
    by_cases hx : cellZ cs (b + 4 * (d : Int)) = 0 ∨ v < cellZ cs (b + 4 * (d : Int))
    · refine ⟨1, by omega, .load (by omega) (by omega) ?_⟩
      rw [c0, if_pos hx, if_pos hx, List.append_nil]
      exact .ret _ _
    · rw [if_neg hx]
      by_cases ht : cellZ cs (b + 4 * (d : Int) + 3) = 0 ∨ v < cellZ cs (b + 4 * (d : Int) + 3)
      · obtain ⟨k, hk, hd⟩ := seen_does (cs := cs) (v := v) hb m (d + 1) (acc ++ [((d : Int), cellZ cs (b + 4 * (d : Int) + 1), cellZ cs (b + 4 * (d : Int) + 2))]) (by omega)
        refine ⟨k + 1 + 1 + 1 + 1, by omega, .load (by omega) (by omega) ?_⟩
        rw [c0, if_neg hx]
        refine .load (by omega) (by omega) ?_
        rw [c3, if_neg (by omega), if_pos ht]
        refine .load (by omega) (by omega) (.load (by omega) (by omega) ?_)
        rw [c1, c2, ← List.append_assoc]
        exact hd
      · obtain ⟨k, hk, hd⟩ := seen_does (cs := cs) (v := v) hb m (d + 1) acc (by omega)
        refine ⟨k + 1 + 1, by omega, .load (by omega) (by omega) ?_⟩
        rw [c0, if_neg hx]
        refine .load (by omega) (by omega) ?_
        rw [c3, if_pos (by omega), if_neg ht, List.nil_append]
        exact hd
theorem seenD11 (cs : List Int) (b : Int) (n : Nat) (v : Int) (hb : 0 ≤ b) (hl : b + 4 * (n : Int) ≤ cs.length) : ∃ m, m ≤ 8 * n + 8 ∧ Does (seenR11 b (n : Int) v) cs m (seenZ cs b n v) cs := by
  obtain ⟨k, hk, hd⟩ := seen_does (cs := cs) (b := b) (v := v) hb n 0 [] (by omega)
  exact ⟨k, by omega, hd⟩

/-! ### A run, and a row of one's own beside it -/
structure SW (W : World) (rb mb cb : Nat) (go0 : Option Nat) (v : Value) (l : List Sn) (st : St) (go : Option Nat) (w : World) : Prop where
  run : RunW W rb mb cb go0 st go w
  own : OwnS w W.heap.size v l
section
variable {W w w' : World} {rb mb cb : Nat} {go0 go go' : Option Nat} {v : Value} {l : List Sn} {st st' : St}
theorem own_blkS (h : OwnS w W.heap.size v l) {g : Nat} (hg : v.ownBlock = some g) : W.heap.size ≤ g ∧ ∃ cur, w.heap[g]? = some (.cells cur 50 (0, 0)) := by
  obtain ⟨h0, ⟨h, _⟩ | ⟨g', cap, cur, h1, h2, h3, h4⟩⟩ := h
  · rw [h] at hg; cases hg
  · rw [h1] at hg
    cases hg
    exact ⟨h2, cur, h3⟩
theorem SW.below (h : SW W rb mb cb go0 v l st go w) (hb : Below w.heap.size w w') : SW W rb mb cb go0 v l st go w' := ⟨h.run.below hb, owned_below h.own hb⟩
theorem SW.access (h : SW W rb mb cb go0 v l st go w) (hr : RM w' rb mb cb go' true st') (ha : Adv rb mb cb w go w' go') : SW W rb mb cb go0 v l st' go' w' := by
  refine ⟨h.run.access hr ha, ?_⟩
  obtain ⟨h0, h1 | ⟨g, cap, cur, h1, h2, h3, h4⟩⟩ := h.own
  · exact ⟨h0, .inl h1⟩
  · exact ⟨h0, .inr ⟨g, cap, cur, h1, h2, h.run.stays ha h3 h2 (by decide), h4⟩⟩
theorem SW.grow {v' : Value} {x : Sn} {n : Nat} (h : SW W rb mb cb go0 v l st go w) (hn : l.length = n) (ho : w'.ownsRow W.heap.size 50 3 v' (n + 1) (snsC l ++ snC x)) (hg : w.grownBy w' v.ownBlock) : SW W rb mb cb go0 v' (l ++ [x]) st go w' := by
  subst hn
  have hm := Mod.of_grown hg
  refine ⟨⟨h.run.old, h.run.rm.mod hm ?_, h.run.adv.grows, h.run.adv.mod.then hm ?_⟩, ?_⟩
  · intro j hj e
    obtain ⟨h1, cur, h2⟩ := own_blkS h.own e
    exact h.run.far h2 h1 (by decide) hj
  · intro i hi e
    have := (own_blkS h.own e).1
    omega
  · unfold OwnS
    rw [snsC_append, List.length_append]
    simpa [snsC] using ho
end
theorem info_sn2 : (Try.prog.info? 50).map (fun i => (i.zero, i.size, i.bytes)) = some (some (.agg #[.int .i64 0, .int .u32 0, .int .i64 0]), 3, 24) := by kernel_rfl
theorem row_cell {w : World} (L : List Value) (t : TypeId) : ∀ (j : Nat) (u : Value), L[j]? = some u → (w.alloc (.cells L.toArray t)).cell? ((⟨w.heap.size, 0, none⟩ : Addr).add j) = some u := by
  intro j u hj
  rw [Addr.add_lit, cell_at (heap_alloc_new w _)]
  simpa using hj
theorem gone_any (t v : Int) (w : World) : Calls Try.prog 32 #[.int .u32 t, .int .u32 v] w fun e w' => e = .returned (.bool (decide (t ≠ 0 ∧ t ≤ v))) ∧ w' = w := by
  by_cases h : t = 0
  · subst h
    go_enter Try.func32, Try.ntmps32
    go_wp2_with fail
    go_ret
    exact ⟨rfl, rfl⟩
  · have b1 : (t != 0) = true := by simpa using h
    have e : decide (t ≠ 0 ∧ t ≤ v) = decide (t ≤ v) := by simp [h]
    rw [e]
    clear h e
    go_enter Try.func32, Try.ntmps32
    go_wp2_with fail
    go_ret
    exact ⟨rfl, rfl⟩
section
variable {w : World} {rb mb cb : Nat} {go : Option Nat} {st : St} {Bd : Nat}
set_option maxRecDepth 100000 in
set_option maxHeartbeats 3000000 in
theorem seen_any (b n v : Int) (hrm : RM w rb mb cb go true st) (hf : st.Fine Bd) (hB : Bd < 1000000000) (hb0 : 0 ≤ b) (hb1 : b ≤ 60000) (hn0 : 0 ≤ n) (hn1 : n ≤ 60000) :
    Calls Try.prog 24 #[.pointer (some ⟨rb, 0, none⟩), .int .i64 b, .int .i64 n, .int .u32 v] w fun e w' => ∃ vv l go', e = .returned vv ∧ OwnS w' w.heap.size vv l ∧ RM w' rb mb cb go' true ((seenR11 b n v).on st).2 ∧ Adv rb mb cb w go w' go' ∧ ∀ y, ((seenR11 b n v).on st).1 = some y → l = y := by
  obtain ⟨m, rfl⟩ := Int.eq_ofNat_of_zero_le hn0
  have HR := Lib.hid (show SW w rb mb cb go (.slice none 0 0) [] st go w from ⟨RunW.start hrm, World.ownsRow_nil _ _ _ _⟩)
  have HF := Lib.hid hf
  have HQ := Lib.hid (show Rest (seenR11 b (m : Int) v) (seenQ b v (m - 0) 0 []) st st from Rest.start _ _)
  have HA := Lib.hid (fun (d : Nat) (h : d ≤ m) (k : Int) (k0 : 0 ≤ k) (k1 : k ≤ 3) => cell_any b (d : Int) k hb0 hb1 (by omega) (by omega) k0 k1)
  have HG := Lib.hid (fun t => gone_any t v)
  obtain ⟨i0, hi0, hz0, hz1, hz2⟩ := info_parts info_sn2
  have HI := Lib.hid (And.intro hi0 (And.intro hz0 (And.intro hz1 hz2)))
  clear hrm hf hi0 hz0 hz1 hz2
  go_enter Try.func24, Try.ntmps24
  go_wp2_with fail
  go_step3
  go_wp2_with fail
  go_step3
  go_wp2_with fail
  go_loopw [9, 15] (fun lv iv wr => ∃ (i : Nat) (vv : Value) (l : List Sn) (q : Nat) (st' : St) (go' : Option Nat), i ≤ m ∧ q ≤ i ∧ vv = lv ∧ iv = .int .i64 i ∧ Hid (l.length = q) ∧ Hid (SW w rb mb cb go vv l st' go' wr) ∧ Hid (st'.Fine Bd) ∧ Hid (Rest (seenR11 b (m : Int) v) (seenQ b v (m - i) i l) st st')) (fun _ iv _ => m - (intOf iv).toNat)
  case atStart => exact ⟨0, _, [], 0, st, go, by omega, by omega, rfl, rfl, Lib.hid rfl, HR, HF, HQ⟩
  case round =>
    clear HR HF HQ
    obtain ⟨i, vv, l, q, st1, go1, hi, hq, rfl, rfl, HL, HR, HF, HQ⟩ := hrel
    by_cases hlt : i < m
    · have hlt1 : (i : Int) < (m : Int) := by omega
      have hr := HQ.out
      obtain ⟨j, hj⟩ : ∃ j, m - i = j + 1 := ⟨m - i - 1, by omega⟩
      have hj2 : m - (i + 1) = j := by omega
      rw [hj] at hr
      unfold seenQ at hr
      have hr2 := hr.load HF.out
      obtain ⟨a, ha⟩ : ∃ a, a = b + 4 * (i : Int) := ⟨_, rfl⟩
      rw [← ha] at hr2
      have h00 := HA.out i hi 0 (by decide) (by decide)
      have h01 := HA.out i hi 1 (by decide) (by decide)
      have h02 := HA.out i hi 2 (by decide) (by decide)
      have h03 := HA.out i hi 3 (by decide) (by decide)
      simp only [Int.add_zero, ← ha] at h00 h01 h02 h03
      have H0 := Lib.hid h00
      have H1 := Lib.hid h01
      have H2 := Lib.hid h02
      have H3 := Lib.hid h03
      have HQ2 := Lib.hid hr2
      have HJ := Lib.hid (And.intro hj hj2)
      clear hr hr2 ha HQ hj hj2 h00 h01 h02 h03
      go_wp2_with fail
      refine (H0.out _).mono ?_; rintro e w1 ⟨rfl, rfl⟩
      go_wp2_with fail
      refine (run_load HR.out.run.rm hB HF.out.ok a).mono ?_; rintro e w2 ⟨rfl, go2, hr2, ha2⟩
      have HR := Lib.hid (HR.out.access hr2 ha2)
      have HU2 := Lib.hid (HF.out.ok.load a).2
      have HF := Lib.hid (HF.out.load a)
      clear hr2 ha2 H0
      obtain ⟨st2, hst2⟩ : ∃ s, s = (st1.load a).2 := ⟨_, rfl⟩
      obtain ⟨y2, hy2⟩ : ∃ y, y = (st1.load a).1 := ⟨_, rfl⟩
      rw [← hst2] at HR HF HQ2
      rw [← hy2] at HQ2 HU2 ⊢
      clear hst2 hy2
      by_cases hx0 : y2 = 0
      · have hr2 := HQ2.out
        rw [if_pos (Or.inl hx0)] at hr2
        have HQ := Lib.hid hr2.ret
        have b1 : (y2 == 0) = true := by simpa using hx0
        clear hr2 hx0
        go_wp2_with fail
        try rw [Exit.noGoto_ret]
        go_ret
        have hq := HQ.out
        unfold Ended at hq
        have := HR.out.run.rm
        rw [← hq.1] at this
        exact ⟨_, l, go2, rfl, HR.out.own, this, HR.out.run.adv, fun y hy => (hq.2 y hy).symm⟩
      have b1 : (y2 == 0) = false := by simpa using hx0
      by_cases hx : v < y2
      · have hr2 := HQ2.out
        rw [if_pos (Or.inr hx)] at hr2
        have HQ := Lib.hid hr2.ret
        clear hr2 hx0
        go_wp2_with fail
        try rw [Exit.noGoto_ret]
        go_ret
        have hq := HQ.out
        unfold Ended at hq
        have := HR.out.run.rm
        rw [← hq.1] at this
        exact ⟨_, l, go2, rfl, HR.out.own, this, HR.out.run.adv, fun y hy => (hq.2 y hy).symm⟩
      have hr2 := HQ2.out
      rw [if_neg (by rintro (h | h) <;> contradiction)] at hr2
      have HQ2 := Lib.hid (hr2.load HF.out)
      clear hr2 hx0
      go_wp2_with fail
      refine (H3.out _).mono ?_; rintro e w1 ⟨rfl, rfl⟩
      go_wp2_with fail
      refine (run_load HR.out.run.rm hB HF.out.ok (a + 3)).mono ?_; rintro e w3 ⟨rfl, go3, hr3, ha3⟩
      have HR := Lib.hid (HR.out.access hr3 ha3)
      have HU3 := Lib.hid (HF.out.ok.load (a + 3)).2
      have HF := Lib.hid (HF.out.load (a + 3))
      clear hr3 ha3 H3
      obtain ⟨st3, hst3⟩ : ∃ s, s = (st2.load (a + 3)).2 := ⟨_, rfl⟩
      obtain ⟨y3, hy3⟩ : ∃ y, y = (st2.load (a + 3)).1 := ⟨_, rfl⟩
      rw [← hst3] at HR HF HQ2
      rw [← hy3] at HQ2 HU3 ⊢
      clear hst3 hy3
      go_wp2_with fail
      refine (HG.out y3 _).mono ?_; rintro e w1 ⟨rfl, rfl⟩
      by_cases ht : y3 ≠ 0 ∧ y3 ≤ v
      · have hr2 := HQ2.out
        rw [if_pos ht] at hr2
        have HQ := Lib.hid hr2
        rw [decide_eq_true ht]
        clear hr2 ht
        go_wp2_with fail
        go_roundw
        case rel => exact ⟨i + 1, vv, l, q, st3, go3, by omega, by omega, rfl, by go_num, HL, HR, HF, by rw [HJ.out.2]; exact HQ⟩
        case measure => simp [intOf]; omega
      have hr2 := HQ2.out
      rw [if_neg ht] at hr2
      have HQ2 := Lib.hid (hr2.load HF.out)
      rw [decide_eq_false ht]
      clear hr2 ht
      go_wp2_with fail
      refine (H1.out _).mono ?_; rintro e w1 ⟨rfl, rfl⟩
      go_wp2_with fail
      refine (run_load HR.out.run.rm hB HF.out.ok (a + 1)).mono ?_; rintro e w4 ⟨rfl, go4, hr4, ha4⟩
      have HR := Lib.hid (HR.out.access hr4 ha4)
      have HU4 := Lib.hid (HF.out.ok.load (a + 1)).2
      have HF := Lib.hid (HF.out.load (a + 1))
      clear hr4 ha4 H1
      obtain ⟨st4, hst4⟩ : ∃ s, s = (st3.load (a + 1)).2 := ⟨_, rfl⟩
      obtain ⟨y4, hy4⟩ : ∃ y, y = (st3.load (a + 1)).1 := ⟨_, rfl⟩
      rw [← hst4] at HR HF HQ2
      rw [← hy4] at HQ2 HU4 ⊢
      clear hst4 hy4
      have HQ2 := Lib.hid (HQ2.out.load HF.out)
      go_wp2_with fail
      refine (H2.out _).mono ?_; rintro e w1 ⟨rfl, rfl⟩
      go_wp2_with fail
      refine (run_load HR.out.run.rm hB HF.out.ok (a + 2)).mono ?_; rintro e w5 ⟨rfl, go5, hr5, ha5⟩
      have HR := Lib.hid (HR.out.access hr5 ha5)
      have HU5 := Lib.hid (HF.out.ok.load (a + 2)).2
      have HF := Lib.hid (HF.out.load (a + 2))
      clear hr5 ha5 H2
      obtain ⟨st5, hst5⟩ : ∃ s, s = (st4.load (a + 2)).2 := ⟨_, rfl⟩
      obtain ⟨y5, hy5⟩ : ∃ y, y = (st4.load (a + 2)).1 := ⟨_, rfl⟩
      rw [← hst5] at HR HF HQ2
      rw [← hy5] at HQ2 HU5 ⊢
      clear hst5 hy5
      have s5 : IntKind.i64.wrap y5 = y5 := IntWalk.i64_in _ (by have h := HU5.out; unfold U at h; omega)
      have HRb := Lib.hid (HR.out.below (below_one (A := .cells (snC ((i : Int), y4, y5)).toArray 50)))
      have HN := Lib.hid (row_cell (w := w5) (snC ((i : Int), y4, y5)) 50)
      go_wp2_with (at_builtin; refine wpList_append_own _ rfl (.tmp 47) (.tmp 53) 34 rfl w.heap.size 50 i0 _ 3 24 Try.underlying34 HI.out.1 HI.out.2.1 HI.out.2.2.1 HI.out.2.2.2 rfl (by decide) vv q (snsC l) rfl (by have h := HRb.out.own; unfold OwnS at h; rw [HL.out] at h; exact h) ⟨w5.heap.size, 0, none⟩ 1 1 (snC ((i : Int), y4, y5)) rfl rfl HN.out (by simp [snC, Value.oneCell']) (by unfold maxLen; omega) (by omega) HRb.out.run.adv.mod.size ?_; intro v' w6 ho2 hg2 _; have HR2 := Lib.hid (HRb.out.grow HL.out ho2 hg2); clear ho2 hg2)
      go_roundw
      case rel => exact ⟨i + 1, v', l ++ [((i : Int), y4, y5)], q + 1, st5, go5, by omega, by omega, rfl, by go_num, Lib.hid (by rw [List.length_append, HL.out]; rfl), HR2, HF, by rw [HJ.out.2]; exact HQ2⟩
      case measure => simp [intOf]; omega
    · obtain rfl : i = m := by omega
      have hr := HQ.out
      rw [Nat.sub_self] at hr
      have HQ2 := Lib.hid hr.ret
      clear hr HQ
      go_wp2_with fail
      try rw [Exit.noGoto_ret]
      go_ret
      have hq := HQ2.out
      unfold Ended at hq
      have := HR.out.run.rm
      rw [← hq.1] at this
      exact ⟨_, l, go1, rfl, HR.out.own, this, HR.out.run.adv, fun y hy => (hq.2 y hy).symm⟩
end
end Go.Proofs.Ytgponhdmhgdalaa
