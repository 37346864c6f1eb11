/-
  What post.Walk keeps: it goes as the program walkR does. Over the program's own text.
-/
import Derived.Test.YtiabmbkmahlhkaaPostWalkR
import Derived.Test.YtiabmbkmahlhkaaPostKept
import Derived.Deep.AppendLies
import Derived.WalkMore
import Derived.Deep.LoopGhost
namespace Go.Proofs.Ytiabmbkmahlhkaa
open Go.RowKit

def lenOf : Value → Nat
  | .slice _ n _ => n
  | _ => 0
theorem u32_info9 : (Try.prog.info? 41).map (fun i => (i.zero, i.size, i.bytes)) = some (some (.int .u32 0), 1, 4) := by kernel_rfl
theorem own_keep {e : TypeId} {k : IntKind} {w w' : World} {base : Nat} {v : Value} {l : List Nat} (h : OwnN e k w base v l) (hb : ∀ g, v.ownBlock = some g → g < w.heap.size → w'.heap[g]? = w.heap[g]?) : OwnN e k w' base v l := by
  obtain ⟨h0, h | ⟨g, cap, cur, h1, h2, h3, h4⟩⟩ := h
  · exact ⟨h0, .inl h⟩
  · refine ⟨h0, .inr ⟨g, cap, cur, h1, h2, ?_, h4⟩⟩
    rw [hb g (by rw [h1]; rfl) (lt_of_heap h3)]
    exact h3
theorem own_blk {e : TypeId} {k : IntKind} {w : World} {base : Nat} {v : Value} {l : List Nat} (h : OwnN e k w base v l) {g : Nat} (hg : v.ownBlock = some g) : base ≤ g ∧ ∃ cur, w.heap[g]? = some (.cells cur e (0, 0)) := by
  obtain ⟨h0, ⟨h, _⟩ | ⟨g', cap, cur, h1, h2, h3, h4⟩⟩ := h
  · rw [h] at hg; cases hg
  · rw [h1] at hg
    cases hg
    exact ⟨h2, cur, h3⟩
theorem one_news {w : World} {b : Nat} {v : Value} {t : TypeId} (h : w.heap[b]? = some (.cells #[v] t (0, 0))) : ∀ (j : Nat) (u : Value), [v][j]? = some u → w.cell? ((⟨b, 0, none⟩ : Addr).add j) = some u := by
  intro j u hj
  rcases j with _ | j
  · simp at hj
    subst hj
    rw [Addr.add_lit]
    exact cell_at h 0
  · simp at hj

/-- A run, a row of one's own beside it, and the plan's copy in block pb; W: the world where the call began. -/
structure RW (W : World) (rb mb cb pb : Nat) (go0 : Option Nat) (c : Array Value) (t : TypeId) (v : Value) (l : List Nat) (st : St) (go : Option Nat) (w : World) : Prop where
  old : rb < W.heap.size ∧ mb < W.heap.size ∧ cb < W.heap.size ∧ W.heap.size ≤ pb
  own : OwnN 41 .u32 w W.heap.size v l
  rm : RM w rb mb cb go true st
  adv : Adv rb mb cb W go0 w go
  apart : ∀ g, v.ownBlock = some g → go ≠ some g
  box : w.heap[pb]? = some (.cells c t (0, 0))
  kind : t ≠ 41
section
variable {W w w' : World} {rb mb cb pb : Nat} {go0 go go' : Option Nat} {c : Array Value} {t : TypeId} {v : Value} {l : List Nat} {st st' : St}
theorem RW.below (h : RW W rb mb cb pb go0 c t v l st go w) (hb : Below w.heap.size w w') : RW W rb mb cb pb go0 c t v l st go w' :=
  ⟨h.old, h.own.below hb, h.rm.below hb, h.adv.trans (Adv.of_below hb), h.apart, (hb.block _ (lt_of_heap h.box)).trans h.box, h.kind⟩
theorem RW.far (h : RW W rb mb cb pb go0 c t v l st go w) : ¬ Feet rb mb cb go pb := by
  obtain ⟨o1, o2, o3, o4⟩ := h.old
  rintro (e | e | e | e)
  · omega
  · obtain ⟨cap, hr⟩ := h.rm.run
    have hl := hr.row
    rw [e] at hl
    obtain ⟨cur, h1, _⟩ := hl
    have h2 := h.box
    rw [h1] at h2
    injection h2 with h2
    injection h2 with _ h3
    exact h.kind h3.symm
  · omega
  · omega
theorem RW.row_far (h : RW W rb mb cb pb go0 c t v l st go w) {g : Nat} (hg : v.ownBlock = some g) : ¬ Feet rb mb cb go g := by
  obtain ⟨o1, o2, o3, o4⟩ := h.old
  have hb := (own_blk h.own hg).1
  rintro (e | e | e | e)
  · omega
  · exact h.apart g hg e
  · omega
  · omega
/-- An access of the run. -/
theorem RW.access (h : RW W rb mb cb pb go0 c t v l st go w) (hr : RM w' rb mb cb go' true st') (ha : Adv rb mb cb w go w' go') : RW W rb mb cb pb go0 c t v l st' go' w' := by
  refine ⟨h.old, own_keep h.own fun g hg hlt => ha.mod.block g hlt (h.row_far hg), hr, h.adv.trans ha, fun g hg e => ?_, (ha.mod.block pb (lt_of_heap h.box) h.far).trans h.box, h.kind⟩
  obtain ⟨_, cur, hc⟩ := own_blk h.own hg
  rcases ha.grows with e' | ⟨g', e', hg'⟩
  · exact h.apart g hg (e' ▸ e)
  · rw [e'] at e
    cases e
    have := lt_of_heap hc
    omega
/-- The row grows by one. -/
theorem RW.grow (h : RW W rb mb cb pb go0 c t v l st go w) {g cap n x : Nat} (hn : n = l.length + 1) (ho : w'.ownsRow W.heap.size 41 1 (.slice (some ⟨g, 0, none⟩) n cap) n (numC .u32 l ++ [.int .u32 (x : Int)])) (hg : w.grownBy w' v.ownBlock) (hl : v.ownBlock = some g ∨ g = w.heap.size) : RW W rb mb cb pb go0 c t (.slice (some ⟨g, 0, none⟩) n cap) (l ++ [x]) st go w' := by
  have hm : Mod (fun k => v.ownBlock = some k) w w' := ⟨hg.os, hg.tape, hg.output, hg.size, fun b hb hs => hg.block b hb fun e => hs e.symm⟩
  have hne : v.ownBlock ≠ some pb := fun e => by
    obtain ⟨_, cur, hc⟩ := own_blk h.own e
    have h2 := h.box
    rw [hc] at h2
    injection h2 with h2
    injection h2 with _ h3
    exact h.kind h3.symm
  refine ⟨h.old, ?_, h.rm.mod hm fun k hk e => h.row_far e hk, ⟨h.adv.grows, h.adv.mod.then hm fun i hi e => by have := (own_blk h.own e).1; omega⟩, fun b hb e => ?_, (hm.block pb (lt_of_heap h.box) hne).trans h.box, h.kind⟩
  · unfold OwnN
    rw [List.length_append, numC_append]
    subst hn
    exact ho
  · cases hb
    rcases hl with hl | hl
    · exact h.apart g hl e
    · have := h.rm.lt g (.inr (.inl e))
      omega
end
theorem step_wR0 {B S : Nat → Int} {f : Nat} {t : Int} {acc : List Nat} (h : atOf B S t = 0) (st : St) : (wR B S f t acc).on st = (some acc, st) := by
  cases f with
  | zero => rfl
  | succ f => unfold wR; rw [if_pos h]; rfl
theorem at_lo9 {B S : Nat → Int} {C : Int} (hL : Laid B S C) (t : Int) : 0 ≤ atOf B S t := by
  by_cases h : kOf B S t < 4
  · have := (hL.slab_of h).2
    omega
  · unfold atOf
    rw [if_neg h]
    omega
/-- What the words so far and the rest make is what the whole makes; the rest begins with a word, or, where b is 0, with a link. -/
def WIn (B S : Nat → Int) (C t : Int) (b : Nat) (t1 : Int) (l1 : List Nat) (st st1 : St) : Prop :=
  (st1.off = true ∧ (walkR B S C t).on st = (none, st1)) ∨ (if b = 0 then Pr.load t1 (fun y => wR B S (C.toNat - l1.length) y l1) else wR B S (C.toNat - l1.length) t1 l1).on st1 = (walkR B S C t).on st
/-- Here it ends. -/
def WEnd (B S : Nat → Int) (C t : Int) (l1 : List Nat) (st st1 : St) : Prop := ((walkR B S C t).on st).2 = st1 ∧ ∀ x, ((walkR B S C t).on st).1 = some x → l1 = x
section
variable {B S : Nat → Int} {C t t1 : Int} {b : Nat} {l1 : List Nat} {st st1 : St} {Bd : Nat}
theorem WIn.start (h : WIn B S C t 1 t1 l1 st st1) (hb : b ≠ 0) : WIn B S C t b t1 l1 st st1 := by
  rcases h with h | h
  · exact .inl h
  · rw [if_neg (by omega)] at h
    exact .inr (by rw [if_neg hb]; exact h)
theorem WIn.word (h : WIn B S C t b t1 l1 st st1) (hb : b ≠ 0) (ha : atOf B S t1 = (b : Int)) (hl : l1.length < C.toNat) (ho : st1.off = false) : WIn B S C t (b - 1) (t1 - 1) (l1 ++ [(st1.load t1).1.toNat]) st (st1.load t1).2 := by
  rcases h with h | h
  · rw [ho] at h; cases h.1
  · obtain ⟨f, hf⟩ : ∃ f, C.toNat - l1.length = f + 1 := ⟨C.toNat - l1.length - 1, by omega⟩
    have hf2 : C.toNat - (l1 ++ [(st1.load t1).1.toNat]).length = f := by simp; omega
    rw [if_neg hb, hf, wR, if_neg (by omega), on_load] at h
    unfold WIn
    rw [hf2]
    by_cases h2 : (st1.load t1).2.off = true
    · rw [if_pos h2] at h
      exact .inl ⟨h2, h.symm⟩
    · rw [if_neg h2] at h
      refine .inr ?_
      rw [← h]
      by_cases h1 : b = 1
      · rw [if_pos (by omega), if_pos (by omega)]
      · rw [if_neg (by omega), if_neg (by omega)]
theorem WIn.link (h : WIn B S C t 0 t1 l1 st st1) (hf : st1.Fine Bd) : WIn B S C t 1 (st1.load t1).1 l1 st (st1.load t1).2 := by
  rcases h with ⟨h1, h2⟩ | h
  · have e := St.load_off hf.good h1 t1
    rw [e]
    exact .inl ⟨h1, h2⟩
  · rw [if_pos rfl, on_load] at h
    by_cases h2 : (st1.load t1).2.off = true
    · rw [if_pos h2] at h
      exact .inl ⟨h2, h.symm⟩
    · rw [if_neg h2] at h
      exact .inr (by rw [if_neg (by omega)]; exact h)
theorem WIn.none_ (h : (walkR B S C t).on st = (none, st1)) : WEnd B S C t l1 st st1 := by
  unfold WEnd
  rw [h]
  exact ⟨rfl, fun x hx => by cases hx⟩
theorem WIn.some_ (h : (some l1, st1) = (walkR B S C t).on st) : WEnd B S C t l1 st st1 := by
  unfold WEnd
  rw [← h]
  exact ⟨rfl, fun x hx => Option.some.inj hx⟩
theorem WIn.end_ (h : WIn B S C t 1 t1 l1 st st1) (ha : atOf B S t1 = 0) : WEnd B S C t l1 st st1 := by
  rcases h with h | h
  · exact WIn.none_ h.2
  · rw [if_neg (by omega), step_wR0 ha] at h
    exact WIn.some_ h
theorem WIn.full (h : WIn B S C t b t1 l1 st st1) (hb : b ≠ 0) (hl : C.toNat ≤ l1.length) : WEnd B S C t l1 st st1 := by
  rcases h with h | h
  · exact WIn.none_ h.2
  · rw [if_neg hb, show C.toNat - l1.length = 0 by omega] at h
    exact WIn.some_ h
theorem WIn.off_ (h : WIn B S C t b t1 l1 st st1) (hb : b ≠ 0) (ha : atOf B S t1 = (b : Int)) (hl : l1.length < C.toNat) (ho : st1.off = true) (hf : st1.Fine Bd) : WEnd B S C t l1 st st1 := by
  rcases h with h | h
  · exact WIn.none_ h.2
  · obtain ⟨f, hf2⟩ : ∃ f, C.toNat - l1.length = f + 1 := ⟨C.toNat - l1.length - 1, by omega⟩
    have e := St.load_off hf.good ho t1
    rw [if_neg hb, hf2, wR, if_neg (by omega), on_load, e, if_pos ho] at h
    exact WIn.none_ h.symm
end
set_option maxRecDepth 100000 in
set_option maxHeartbeats 400000 in
theorem lands_walk {w : World} {rb mb cb : Nat} {go : Option Nat} {st : St} {Bd : Nat} (B S : Nat → Int) (C T L t : Int) (hrm : RM w rb mb cb go true st) (hf : st.Fine Bd) (hB : Bd < 1000000000) (hL : Laid B S C) (h0 : -9223372036854775808 ≤ t) (h1 : t ≤ 9223372036854775807) :
    Calls Try.prog 14 #[.pointer (some ⟨rb, 0, none⟩), .agg (planC B S C T L), .int .i64 t] w fun e w' => ∃ v l go', e = .returned v ∧ OwnN 41 .u32 w' w.heap.size v l ∧ RM w' rb mb cb go' true ((walkR B S C t).on st).2 ∧ Adv rb mb cb w go w' go' ∧ ∀ x, ((walkR B S C t).on st).1 = some x → l = x := by
  obtain ⟨i0, hi0, hz0, hz1, hz2⟩ := info_parts u32_info9
  have HI := Lib.hid (And.intro hi0 (And.intro hz0 (And.intro hz1 hz2)))
  clear hi0 hz0 hz1 hz2
  have hc1 := hL.c1
  have hC0 : 3 ≤ C := by have := hL.bases; omega
  have HL := Lib.hid hL
  have HCls := Lib.hid (fun w a => (class_any w B S C T L a hL.fit).mono fun _ _ h => cls_value h)
  have hlt := hrm.lt
  have l1 := hlt rb (.inl rfl)
  have l2 := hlt mb (.inr (.inr (.inl rfl)))
  have l3 := hlt cb (.inr (.inr (.inr rfl)))
  have HRW : Hid (RW w rb mb cb w.heap.size go (planC B S C T L) 29 (.slice none 0 0) [] st go (w.alloc (.cells (planC B S C T L) 29))) := Lib.hid ⟨⟨l1, l2, l3, Nat.le_refl _⟩, OwnN.nil _ _ _ _, hrm.below below_one, Adv.of_below below_one, (fun g h => by cases h), heap_alloc_new w _, by decide⟩
  have HF := Lib.hid hf
  clear hrm hf hL hlt l1 l2 l3
  obtain ⟨CN, hCN⟩ : ∃ CN : Nat, C = (CN : Int) := ⟨C.toNat, by omega⟩
  subst hCN
  go_enter Try.func14, Try.ntmps14
  go_wp2_with fail
  go_step3
  go_wp2_with fail
  go_step3
  go_wp2_with fail
  go_loopg [7, 8] CN (fun g lv tv wr => ∃ (t1 : Int) (l1 : List Nat) (n1 : Nat) (st1 : St) (go1 : Option Nat) (oa : Option Addr) (cp : Nat), lv = .slice oa n1 cp ∧ tv = .int .i64 t1 ∧ g + n1 = CN ∧ -9223372036854775808 ≤ t1 ∧ t1 ≤ 9223372036854775807 ∧ Hid (n1 = l1.length) ∧ Hid (RW w rb mb cb w.heap.size go (planC B S (CN : Int) T L) 29 (.slice oa n1 cp) l1 st1 go1 wr) ∧ Hid (st1.Fine Bd) ∧ Hid (WIn B S (CN : Int) t 1 t1 l1 st st1))
  case atStart => exact ⟨t, [], 0, st, go, none, 0, rfl, rfl, rfl, h0, h1, Lib.hid rfl, HRW, HF, Lib.hid (.inr rfl)⟩
  case round =>
    clear HRW HF
    obtain ⟨t1, l1, n1, st1, go1, oa, cp, rfl, rfl, hgn, ht0, ht1, HN, HR, HF, HRel⟩ := hrel
    have HBox := Lib.hid HR.out.box
    obtain ⟨a, ha⟩ : ∃ a, a = atOf B S t1 := ⟨_, rfl⟩
    have HA := Lib.hid ha
    have hcl := HCls.out
    have HC2 := Lib.hid (fun w => hcl w t1)
    rw [← ha] at HC2
    have hal := at_lo9 HL.out t1
    rw [← ha] at hal
    obtain ⟨kk, hkk⟩ : ∃ kk, kk = kInt B S t1 := ⟨_, rfl⟩
    rw [← hkk] at HC2
    clear hcl ha hkk
    go_wp2_with (refine wpList_load_row rfl 29 (.tmp 4) rfl w.heap.size rfl 29 (planC B S (CN : Int) T L) (0, 0) _ HBox.out Try.underlying29 rfl (planC_info _ _ _ _ _) ?_)
    refine (HC2.out _).mono ?_; rintro e w2 ⟨rfl, hb⟩
    have HR := Lib.hid (HR.out.below hb)
    clear hb HC2 HBox
    by_cases h00 : a = 0
    · subst h00
      have HE := Lib.hid (HRel.out.end_ HA.out.symm)
      go_wp2_with fail
      try rw [Exit.noGoto_ret]
      go_ret
      exact ⟨_, l1, go1, rfl, HR.out.own, by rw [HE.out.1]; exact HR.out.rm, HR.out.adv, HE.out.2⟩
    · have hab : (a == 0) = false := by simpa using h00
      obtain ⟨a0, rfl⟩ := Int.eq_ofNat_of_zero_le hal
      have ha0 : a0 ≠ 0 := by omega
      have hsl := HL.out.at_ (show 0 < atOf B S t1 by rw [← HA.out]; omega)
      have hs2 := HL.out.slab_of hsl.1
      rw [← HA.out] at hs2
      obtain ⟨z, hz⟩ : ∃ z, z = t1 - (a0 : Int) := ⟨_, rfl⟩
      rw [← hz] at hs2
      have HZ := Lib.hid hs2
      have hz3 : 3 ≤ z := by
        obtain ⟨hk, ⟨q, hq⟩, hle⟩ := hs2.1
        have hs := slab_lo (kOf B S t1)
        have hq0 : 0 ≤ (q : Int) * slab (kOf B S t1) := Int.mul_nonneg (by omega) (by omega)
        have := (HL.out.pool (show kOf B S t1 < 6 by omega)).1
        omega
      have hzh : t1 < (CN : Int) := hsl.2.2.1
      have ht1z : t1 = z + (a0 : Int) := by omega
      have ha256 : a0 ≤ 256 := by have := hs2.2.2; have := slab_hi (kOf B S t1); omega
      clear hsl hs2 h00 hz hal
      subst ht1z
      go_wp2_with fail
      go_loopg [7, 8, 10] a0 (fun g2 lv tv av wy => ∃ (t2 : Int) (l2 : List Nat) (n2 : Nat) (st2 : St) (go2 : Option Nat) (oa2 : Option Addr) (cp2 : Nat), lv = .slice oa2 n2 cp2 ∧ tv = .int .i64 t2 ∧ av = .int .i64 (g2 : Int) ∧ t2 = z + (g2 : Int) ∧ g2 ≤ a0 ∧ n2 + g2 = n1 + a0 ∧ n2 ≤ CN ∧ Hid (n2 = l2.length) ∧ Hid (RW w rb mb cb w.heap.size go (planC B S (CN : Int) T L) 29 (.slice oa2 n2 cp2) l2 st2 go2 wy) ∧ Hid (st2.Fine Bd) ∧ Hid (WIn B S (CN : Int) t g2 t2 l2 st st2))
      case atStart => exact ⟨_, l1, n1, st1, go1, oa, cp, rfl, rfl, rfl, rfl, Nat.le_refl _, rfl, by omega, HN, HR, HF, Lib.hid (HRel.out.start ha0)⟩
      case round =>
        clear HRel HR HF HN ht0 ht1
        obtain ⟨t2, l2, n2, st2, go2, oa2, cp2, rfl, rfl, rfl, ht2, hga, hng, hnC, HN, HR, HF, HRel⟩ := hrel
        cases gk with
        | zero =>
          have HK := Lib.hid (run_load HR.out.rm hB HF.out.ok t2)
          have hxu := (HF.out.ok.load t2).2
          have HRel2 := HRel.out.link HF.out
          have HFo := Lib.hid (HF.out.load t2)
          obtain ⟨x, hx⟩ : ∃ x, x = (st2.load t2).1 := ⟨_, rfl⟩
          obtain ⟨sto, hsto⟩ : ∃ sto, sto = (st2.load t2).2 := ⟨_, rfl⟩
          rw [← hx] at HK hxu HRel2
          rw [← hsto] at HK HRel2 HFo
          have HRl := Lib.hid HRel2
          have hx0 := hxu.1
          have hx1 := hxu.2
          have i1 : IntKind.i64.wrap x = x := IntWalk.i64_in _ (by omega)
          clear hx hsto hxu HRel2
          have HT2 := Lib.hid ht2
          clear ht2
          go_wp2_with fail
          refine HK.out.mono ?_
          clear HK
          rintro e w3 ⟨rfl, go3, hr3, ha3⟩
          have HR3 := Lib.hid (HR.out.access hr3 ha3)
          clear hr3 ha3
          go_wp2_with fail
          go_roundg (CN - n2)
          case measure => omega
          case rel => exact ⟨x, l2, n2, sto, go3, oa2, cp2, rfl, rfl, by omega, by omega, by omega, HN, HR3, HFo, HRl⟩
        | succ g2 =>
          obtain ⟨g3, hg3⟩ : ∃ g3, g3 = g2 + 1 := ⟨_, rfl⟩
          rw [← hg3] at ht2 hga hng HRel ⊢
          have hat : atOf B S t2 = (g3 : Int) := by
            rw [ht2]
            exact (HL.out.in_slab HZ.out.1 (by omega) (by have := HZ.out.2.2; omega)).2
          have HAt := Lib.hid hat
          have hg30 : g3 ≠ 0 := by omega
          have hgp : (0 : Int) < (g3 : Int) := by omega
          have cC : wr.cell? ⟨w.heap.size, 12, none⟩ = some (.int .i64 (CN : Int)) := cell_at HR.out.box 12
          have ht20 : 3 ≤ t2 := by omega
          have ht21 : t2 < (CN : Int) := by omega
          have HT2 := Lib.hid ht2
          have HG3 := Lib.hid hg3
          have hg3u : g3 ≤ 256 := by omega
          have s2 : IntKind.i64.wrap ((g3 : Int) - 1) = (g2 : Int) := by rw [IntWalk.i64_in _ (by omega)]; omega
          clear hat ht2 hg3
          by_cases hlt : n2 < CN
          · have hge : decide ((CN : Int) ≤ (n2 : Int)) = false := decide_eq_false (by omega)
            have hge2 : decide (CN ≤ n2) = false := decide_eq_false (by omega)
            obtain ⟨capo, hro⟩ := HR.out.rm.run
            cases hoff : st2.off with
            | true =>
              rw [hoff] at hro
              have HE := Lib.hid (HRel.out.off_ hg30 HAt.out (by have := HN.out; simp; omega) hoff HF.out)
              clear hoff
              go_wp2_with (go_at_call 28; refine (off_at hro).mono ?_; rintro e w6 ⟨rfl, rfl⟩; clear hro)
              try rw [Exit.noGoto_ret]
              go_ret
              exact ⟨_, l2, go2, rfl, HR.out.own, by rw [HE.out.1]; exact HR.out.rm, HR.out.adv, HE.out.2⟩
            | false =>
              rw [hoff] at hro
              have HRel2 := HRel.out.word hg30 HAt.out (by have := HN.out; simp; omega) hoff
              have HK := Lib.hid (run_load HR.out.rm hB HF.out.ok t2)
              have HFo := Lib.hid (HF.out.load t2)
              obtain ⟨x, hx⟩ : ∃ x : Nat, (st2.load t2).1 = (x : Int) := by
                have := (HF.out.ok.load t2).2
                exact ⟨((st2.load t2).1).toNat, by have := this.1; omega⟩
              obtain ⟨sto, hsto⟩ : ∃ sto, sto = (st2.load t2).2 := ⟨_, rfl⟩
              rw [hx] at HK HRel2
              rw [Int.toNat_natCast] at HRel2
              rw [← hsto] at HK HRel2 HFo
              have HRl := Lib.hid HRel2
              have s1 : IntKind.i64.wrap (t2 - 1) = t2 - 1 := IntWalk.i64_in _ (by omega)
              clear hoff hx hsto HRel2
              go_wp2_with (go_at_call 28; refine (off_at hro).mono ?_; rintro e w6 ⟨rfl, rfl⟩; clear hro)
              refine HK.out.mono ?_
              clear HK
              rintro e w3 ⟨rfl, go3, hr3, ha3⟩
              have HR3 := Lib.hid (HR.out.access hr3 ha3)
              have HR3b := Lib.hid (HR3.out.below (below_one (A := .cells #[.int .u32 (x : Int)] 41)))
              clear hr3 ha3
              go_wp2_with (at_builtin; refine wpList_append_lies _ rfl (.tmp 33) (.tmp 37) 37 rfl w.heap.size 41 i0 _ 1 4 Try.underlying37 HI.out.1 HI.out.2.1 HI.out.2.2.1 HI.out.2.2.2 rfl (by decide) (.slice oa2 n2 cp2) n2 (numC .u32 l2) rfl (by have h := HR3b.out.own; unfold OwnN at h; rw [← HN.out] at h; exact h) ⟨w3.heap.size, 0, none⟩ 1 1 [.int .u32 (x : Int)] rfl rfl (one_news (heap_alloc_new w3 _)) (by simp [Value.oneCell']) (by decide) (by unfold maxLen; omega) (by omega) HR3b.out.adv.mod.size _ rfl ?_; intro g' c' w4 ho2 hg2 hl2 _; have HRo := Lib.hid (HR3b.out.grow (by rw [← HN.out]) ho2 hg2 hl2); clear ho2 hg2 hl2)
              go_roundg g2
              case measure => omega
              case rel => exact ⟨_, _, n2 + 1, sto, _, _, _, rfl, rfl, rfl, by have := HT2.out; have := HG3.out; omega, by have := HG3.out; omega, by have := HG3.out; omega, by omega, Lib.hid (by rw [List.length_append, ← HN.out]; rfl), HRo, HFo, by have := HG3.out; rw [this, Nat.add_sub_cancel] at HRl; exact HRl⟩
          · have hge : decide ((CN : Int) ≤ (n2 : Int)) = true := decide_eq_true (by omega)
            have hge2 : decide (CN ≤ n2) = true := decide_eq_true (by omega)
            have HE := Lib.hid (HRel.out.full hg30 (by have := HN.out; simp; omega))
            go_wp2_with fail
            try rw [Exit.noGoto_ret]
            go_ret
            exact ⟨_, l2, go2, rfl, HR.out.own, by rw [HE.out.1]; exact HR.out.rm, HR.out.adv, HE.out.2⟩
end Go.Proofs.Ytiabmbkmahlhkaa
