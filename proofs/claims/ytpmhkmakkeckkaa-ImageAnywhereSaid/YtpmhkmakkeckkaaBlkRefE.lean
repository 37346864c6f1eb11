/-
  The reference of layer 13: a list copied. Over the program's own text.
-/
import Derived.Test.YtpmhkmakkeckkaaBlkDecB
import Derived.Test.YtpmhkmakkeckkaaOwnSet
import Derived.Laws.OwnMore
namespace Go.Proofs.Ytpmhkmakkeckkaa
open Go.RowKit

set_option maxRecDepth 100000 in
/-- Ints behind ints, wherever they are read. -/
theorem append_zs {w W : World} {ops : Array Oper} {rest : List Oper} {o : Oper} {a : Act} {Q : Exit → Act → World → Prop} (hgd : o.guard = none) (s x : Operand) (hop : o.op = .call { callee := .builtin .append, args := #[s, x], argTypes := #[50, 50] })
    (v : Value) (A B : List Int) (hs : a.eval s = v) (hlow : Below W.heap.size W w) (hown : OwnZ w W.heap.size v A) (oa : Option Addr) (c n : Nat) (hn : B.length = n) (hx : a.eval x = .slice oa n c) (hB : ReadZ w oa B) (h0 : oa = none → c = 0) (hc : n ≤ c) (hl : A.length + n ≤ 1000000)
    (h : ∀ v' w', OwnZ w' W.heap.size v' (A ++ B) ∧ Below W.heap.size W w' → w.grownBy w' v.ownBlock → wpList Try.prog ops Q rest (a.put o.dst v') w') : wpList Try.prog ops Q (o :: rest) a w := by
  obtain ⟨i0, hi, hz0, hz1, hz2⟩ := info_parts info_z
  subst hn
  cases oa with
  | none =>
    have hc0 := h0 rfl
    have hB0 : B = [] := List.eq_nil_of_length_eq_zero (by omega)
    subst hB0 hc0
    exact wpList_append_own_none hgd s x 50 hop W.heap.size 3 i0 1 Try.underlying50 hi v A.length (zC A) hs hown hx (h v w (by rw [List.append_nil]; exact ⟨hown, hlow⟩) (World.grownBy.refl w _))
  | some ad =>
    refine wpList_append_own w hgd s x 50 hop W.heap.size 3 i0 _ 1 8 Try.underlying50 hi hz0 hz1 hz2 rfl (by decide) v A.length (zC A) hs hown ad B.length c (zC B) hx (by rw [zC_length, Nat.mul_one]) hB.cells (zC_one B) (by unfold maxLen; omega) (by omega) hlow.size ?_
    intro v' w' ho hg _
    exact h v' w' (OwnZ.more0 hlow.size hlow hown ho hg) hg
/-- What is copied so far. -/
structure CpI (W : World) (g0 N i : Nat) (l : List En) (xs : List Value) (w : World) : Prop where
  own : w.ownsRow W.heap.size 52 2 (.slice (some ⟨g0, 0, none⟩) N N) N xs
  got : ∀ (j : Nat) (e : En), j < i → l[j]? = some e → xs[j * 2]? = some (.int .i64 e.1) ∧ ∃ u, xs[j * 2 + 1]? = some u ∧ OwnZ w W.heap.size u e.2
  low : Below W.heap.size W w
set_option maxRecDepth 100000 in
theorem own_heap {w : World} {base size n g cap : Nat} {e : TypeId} {xs : List Value} (h : w.ownsRow base e size (.slice (some ⟨g, 0, none⟩) n cap) n xs) : ∃ c, w.heap[g]? = some (.cells c e (0, 0)) ∧ base ≤ g := by
  rcases h.2 with ⟨h1, _⟩ | ⟨g', cap', cur, h1, h2, h3, _⟩
  · cases h1
  · cases h1
    exact ⟨cur, h3, h2⟩

set_option maxRecDepth 100000 in
theorem own_turn2 {w w3 : World} {base n size : Nat} {e : TypeId} {v v2 : Value} {xs : List Value} (h : w.ownsRow base e size v n xs) (o : Obj) (hg : (w.alloc o).grownBy w3 v2.ownBlock) (hne : ∀ k, v2.ownBlock = some k → v.ownBlock = some k → False) : w3.ownsRow base e size v n xs := by
  refine (World.ownsRow.alloc h o).kept hg ?_
  cases hb : v.ownBlock with
  | none =>
    rcases h.2 with ⟨rfl, _⟩ | ⟨g, cap, cur, rfl, _⟩
    · exact .inl rfl
    · simp [Value.ownBlock] at hb
  | some k => exact .inr fun e => hne k (by rw [← e]) hb
set_option maxRecDepth 100000 in
set_option maxHeartbeats 4000000 in
theorem ref_copy13 (W : World) (oa : Option Addr) (c N : Nat) (l : List En) (en : l.length = N) (ha : ReadE W oa l) (hl : N ≤ 100000) (hp : ∀ e ∈ l, e.2.length ≤ 100000) :
    Calls Try.prog 21 #[.slice oa N c] W fun e w' => ∃ ob, e = .returned (.slice ob N N) ∧ ReadE w' ob l ∧ Below W.heap.size W w' := by
  obtain ⟨iE, e0, e1, e2, e3⟩ := info_parts info_ent
  have HIE := Lib.hid (And.intro e0 (And.intro e1 (And.intro e2 e3)))
  have hby : iE.bytes * N ≤ 281474976710656 := by rw [e3]; omega
  have HBy := Lib.hid hby
  have HA := Lib.hid ha
  have HN := Lib.hid en
  have HP := Lib.hid hp
  clear e0 e1 e2 e3 ha en hp hby
  go_enter Try.func21, Try.ntmps21
  go_wp2_with (refine wpList_make_full W rfl (.tmp 6) (.tmp 6) 42 rfl W.heap.size 52 iE _ 2 Try.underlying42 HIE.out.1 HIE.out.2.1 HIE.out.2.2.1 .i64 .i64 _ _ N rfl rfl rfl rfl HBy.out (by unfold maxLen; omega) (Nat.le_refl _) ?_; intro w1 ho hg; have HI0 := Lib.hid (show CpI W W.heap.size N 0 l _ w1 from ⟨ho, fun j e hj => absurd hj (by omega), (Below.refl _ _).grown hg (Nat.le_refl _) (fun k hk => by cases hk)⟩); clear ho hg)
  go_loopw [10] (fun iv wr => ∃ (i : Nat) (xs : List Value), i ≤ N ∧ iv = .int .i64 (i : Int) ∧ CpI W W.heap.size N i l xs wr) (fun iv _ => N - (intOf iv).toNat)
  case atStart => exact ⟨0, _, by omega, rfl, HI0.out⟩
  case round =>
    obtain ⟨i, xs, hi, rfl, hI⟩ := hrel
    have HI := Lib.hid hI
    by_cases hlt : i < N
    · have hlt1 : (i : Int) < (N : Int) := by omega
      obtain ⟨x, hx⟩ : ∃ x, l[i]? = some x := ⟨_, List.getElem?_eq_getElem (by rw [HN.out]; exact hlt)⟩
      obtain ⟨g, o, hoa, cx, p, cxp, pa, pc, rfl, p1, p2, p3, p4⟩ := HA.out i x hx
      subst hoa
      have hpx := HP.out x (List.mem_of_getElem? hx)
      have HX := Lib.hid hx
      have HRx := Lib.hid p4
      obtain ⟨m, hm⟩ : ∃ m, x.2.length = m := ⟨_, rfl⟩
      have HM := Lib.hid hm
      rw [hm] at cxp p1 hpx
      have HCx := Lib.hid cxp
      have cd := below_cell cx hI.low
      obtain ⟨⟨y0, hy0, cy0⟩, fy0, ho1⟩ := own_set hI.own (i := i * 2) (by omega) (.int .i64 x.1)
      have HO1 := Lib.hid ho1
      obtain ⟨cq, hcq, hgq⟩ := own_heap hI.own
      have HQ := Lib.hid (And.intro hcq hgq)
      clear hx p4 hm cx cxp hy0 ho1 hI hcq hgq
      go_upto_region 6 with fail
      have HW1 := Lib.hid (show Below W.heap.size W (wr.setCell ⟨W.heap.size, i * 2, none⟩ (.int .i64 x.1)) from HI.out.low.setCell (p := ⟨W.heap.size, i * 2, none⟩) (Nat.le_refl _) _)
      have HG1 := Lib.hid (show ∀ u t, OwnZ wr W.heap.size u t → OwnZ (wr.setCell ⟨W.heap.size, i * 2, none⟩ (.int .i64 x.1)) W.heap.size u t from fun u t h => row_mod h (q := W.heap.size) (fun j _ hj => Below.heap_setCell _ _ _ _ hj) HQ.out.1 (by decide))
      generalize wr.setCell ⟨W.heap.size, i * 2, none⟩ (.int .i64 x.1) = w1 at HO1 HW1 HG1 ⊢
      clear cd cy0 fy0
      have HE0 := Lib.hid (show OwnZ (w1.alloc (.cells #[] 3)) W.heap.size (.slice (some ⟨w1.heap.size, 0, none⟩) 0 0) [] from World.ownsRow_lit (base := W.heap.size) (e := 3) (size := 1) w1 #[] 0 HW1.out.size (by decide) (by simp))
      have HW2 := Lib.hid (low_new (o := .cells #[] 3) HW1.out)
      have c2 := below_cell HCx.out HW2.out
      go_wp2_with (at_builtin; refine append_zs (W := W) rfl (.tmp 24) (.tmp 29) rfl _ [] x.2 rfl HW2.out HE0.out pa pc m HM.out rfl (HRx.out.below HW2.out) p3 p1 (by simp; omega) ?_; intro v3 w3 ho hg; have HO3 := Lib.hid (own_set (row_grown HE0.out hg (World.ownsRow.alloc HO1.out _) (by decide)) (i := i * 2 + 1) (by omega) v3); have HV3 := Lib.hid ho; have HG3 := Lib.hid hg; clear ho hg; obtain ⟨ov, cv, hv3, _⟩ := HV3.out.1.reads; rw [List.nil_append, HM.out] at hv3; subst hv3; obtain ⟨y1, hy1, cy1⟩ := HO3.out.1; have fy1 := HO3.out.2.1; clear hy1)
      have HNx := Lib.hid (show CpI W W.heap.size N (i + 1) l _ (w3.setCell ⟨W.heap.size, i * 2 + 1, none⟩ (.slice ov m cv)) from by
        obtain ⟨cq3, hcq3, _⟩ := own_heap (row_grown HE0.out HG3.out (World.ownsRow.alloc HO1.out (.cells #[] 3)) (by decide))
        have hkeep : ∀ u t, OwnZ w3 W.heap.size u t → OwnZ (w3.setCell ⟨W.heap.size, i * 2 + 1, none⟩ (.slice ov m cv)) W.heap.size u t := fun u t h => row_mod h (q := W.heap.size) (fun j _ hj => Below.heap_setCell _ _ _ _ hj) hcq3 (by decide)
        have hlen : xs.length = N * 2 := HI.out.own.1
        refine ⟨HO3.out.2.2, fun j e hj hje => ?_, HV3.out.2.setCell (p := ⟨W.heap.size, i * 2 + 1, none⟩) (Nat.le_refl _) _⟩
        by_cases hji : j < i
        · obtain ⟨h1, u, h2, h3⟩ := HI.out.got j e hji hje
          refine ⟨by rw [List.getElem?_set_ne (by omega), List.getElem?_set_ne (by omega)]; exact h1, u, by rw [List.getElem?_set_ne (by omega), List.getElem?_set_ne (by omega)]; exact h2, hkeep u _ ?_⟩
          refine own_turn2 (HG1.out u _ h3) (.cells #[] 3) HG3.out ?_
          exact fun k hk e => by
            have := (World.ownsRow.lt (HG1.out u _ h3) k e).2
            have hk : some w1.heap.size = some k := hk
            injection hk with hk
            omega
        · obtain rfl : j = i := by omega
          rw [HX.out] at hje
          injection hje with hje
          subst hje
          refine ⟨by rw [List.getElem?_set_ne (by omega), List.getElem?_set_self (by omega)], _, by rw [List.getElem?_set_self (by simp; omega)], hkeep _ _ ?_⟩
          have := HV3.out.1
          rwa [List.nil_append] at this)
      go_roundw
      case rel => exact ⟨i + 1, _, by omega, by go_num, HNx.out⟩
      case measure => simp [intOf]; omega
    · obtain rfl : i = N := by omega
      go_wp2_with fail
      go_ret
      refine ⟨some ⟨W.heap.size, 0, none⟩, rfl, fun j e hj => ?_, HI.out.low⟩
      have hjl := (List.getElem?_eq_some_iff.1 hj).1
      obtain ⟨h1, u, h2, h3⟩ := HI.out.got j e (by have := HN.out; omega) hj
      have hc := World.ownsRow.cells HI.out.own (g := W.heap.size) rfl
      simp only [Addr.add_lit] at hc
      obtain ⟨pa, pc, rfl, k4, k5, k6, k7⟩ := h3.reads
      exact ⟨W.heap.size, 0, rfl, hc _ _ h1, _, by simpa [Nat.add_assoc] using hc _ _ h2, pa, pc, rfl, k4, k5, k6, k7⟩
end Go.Proofs.Ytpmhkmakkeckkaa
