/-
  Layer 17 as it landed: which trees may be. Over the program's own text.
-/
import Derived.Test.YthkpaelpnofbgaaGreatDoorQsC11
import Derived.Test.YthkpaelpnofbgaaGreatDoorShelf
namespace Go.Proofs.YthkpaelpnofbgaaGreatDoor
open Go.RowKit

set_option maxRecDepth 100000 in
theorem sumT_mem : ∀ {ts : List Tk} {t : Tk}, t ∈ ts → t.2.1.size ≤ sumT ts
  | [], t, h => by simp at h
  | x :: ts, t, h => by
    rw [sumT]
    rcases List.mem_cons.1 h with rfl | h
    · omega
    · have := sumT_mem h; omega
set_option maxRecDepth 100000 in
theorem wtK_len : ∀ ks : List Nd, ks.length ≤ wtK ks
  | [] => by simp [wtK]
  | x :: l => by
    have := wtK_len l
    have := wtN_pos x
    rw [wtK, List.length_cons]
    omega
set_option maxRecDepth 100000 in
/-- What a node's weight bounds. -/
theorem wt_parts {k f : Int} {ts : List Tk} {ks : List Nd} (h : wtN (.mk k f ts ks) ≤ 3000) : ts.length ≤ 3000 ∧ (∀ t ∈ ts, t.2.1.size ≤ 3000) ∧ ks.length ≤ 3000 ∧ ∀ x ∈ ks, wtN x ≤ 3000 := by
  rw [wtN] at h
  have := wtK_len ks
  exact ⟨by omega, fun t ht => by have := sumT_mem ht; omega, by omega, fun x hx => by have := wtK_mem hx; omega⟩
set_option maxRecDepth 100000 in
theorem mayT_eq {w : Nat} {k f : Int} {ts : List Tk} {ks : List Nd} (hk : ¬ k = 1) : mayT w (.mk k f ts ks) = (okI k f ts ks && mayK k (if k = 4 then w + 1 else w) ks) := by
  rw [mayT, if_neg hk]; rfl
set_option maxRecDepth 100000 in
theorem mayT_leaf {w : Nat} {f : Int} {ts : List Tk} {ks : List Nd} : mayT w (.mk 1 f ts ks) = okL f ts ks := by
  rw [mayT, if_pos rfl]; rfl

set_option maxRecDepth 100000 in
theorem okI_two (f : Int) (ts : List Tk) (ks : List Nd) : okI 2 f ts ks = (decide (2 ≤ ks.length) && f == 0 && ts.isEmpty) := by unfold okI; simp
set_option maxRecDepth 100000 in
theorem okI_three (f : Int) (ts : List Tk) (ks : List Nd) : okI 3 f ts ks = (decide (2 ≤ ks.length) && f == 0 && ts.isEmpty) := by unfold okI; simp
set_option maxRecDepth 100000 in
theorem okI_four (f : Int) (ts : List Tk) (ks : List Nd) : okI 4 f ts ks = (decide (ks.length = 1) && f == 0 && ts.isEmpty) := by unfold okI; simp
set_option maxRecDepth 100000 in
set_option maxHeartbeats 8000000 in
theorem may_any : ∀ (x : Nd), wtN x ≤ 3000 → ∀ (w : World) (S : Nat → Prop) (r : Rn) (n : Nat), RdN w S x r → TabsIn w → n ≤ 8 →
    Calls Tryz.prog 14 #[rnV r, .int .i64 (n : Int)] w fun e w' => e = .returned (.bool (mayT n x)) ∧ Below w.heap.size w w' := by
  refine Nd.ind2 fun k f ts ks ih hwt w S r n h hT hn8 => ?_
  obtain ⟨hw1, hw2, hw3, hw4⟩ := wt_parts hwt
  have hread := h
  have hpt := h.parts
  cases h with
  | @mk _ _ _ _ ta ka tc kc rs hf0 hf1 ht htl htm htb hk hkl hkm hkb hl hr =>
  have HLf := Lib.hid (fun (hk1 : k = 1) wx (hb : Below w.heap.size w wx) => (show Calls Tryz.prog 23 #[rnV (k, f, .slice ta ts.length tc, .slice ka ks.length kc)] wx fun e w' => e = .returned (.bool (mayT n (.mk k f ts ks))) ∧ Below wx.heap.size wx w' by
    rw [hk1, mayT_leaf, ← hk1]
    exact mayLeaf_any wx S k f ts ks _ (hread.after hb) (hT.below hb) (by omega) (fun t ht => by have := hw2 t ht; omega) (by omega)))
  obtain ⟨m, hm⟩ : ∃ m, m = ks.length := ⟨_, rfl⟩
  obtain ⟨q, hq⟩ : ∃ q, q = ts.length := ⟨_, rfl⟩
  have HN := Lib.hid hm
  have HIh := Lib.hid (fun (i : Nat) x r (h1 : ks[i]? = some x) (h2 : rs[i]? = some r) (wx : World) (hb : Below w.heap.size w wx) (d : Nat) (hd : d ≤ 8) => ih x (List.mem_of_getElem? h1) (hw4 x (List.mem_of_getElem? h1)) wx S r d ((hr i x r h1 h2).after hb) (hT.below hb) hd)
  have HK := Lib.hid (And.intro hk (And.intro hl hr))
  have HE := Lib.hid (show ts.isEmpty = decide (q = 0) by rw [hq]; cases ts <;> simp)
  obtain ⟨res, hres⟩ : ∃ b, b = mayT n (.mk k f ts ks) := ⟨_, rfl⟩
  rw [← hres] at HLf ⊢
  have HRes := Lib.hid hres
  rw [← hm] at hw3
  rw [← hq] at hw1
  rw [← hm, ← hq, show rnV (k, f, .slice ta q tc, .slice ka m kc) = .agg #[.int .i64 k, .int .u8 f, .slice ta q tc, .slice ka m kc] from rfl] at HLf ⊢
  obtain ⟨X, hX⟩ : ∃ X : Obj, X = .cells #[.int .i64 k, .int .u8 f, .slice ta q tc, .slice ka m kc] 25 := ⟨_, rfl⟩
  have hx1 : (w.alloc X).heap[w.heap.size]? = some (.cells #[.int .i64 k, .int .u8 f, .slice ta q tc, .slice ka m kc] 25 (0, 0)) := by rw [heap_alloc_new w X, hX]
  have HB1 := Lib.hid (And.intro (below_one (w := w) (A := X)) hx1)
  have c0 := cell_at hx1 0
  have c1 := cell_at hx1 1
  have c2 := cell_at hx1 2
  have c3 := cell_at hx1 3
  simp only [List.getElem?_toArray, List.getElem?_cons_zero, List.getElem?_cons_succ] at c0 c1 c2 c3
  clear hm hq ih hread hpt hf0 hf1 ht htl htm htb hk hkl hkm hkb hl hr hT hx1 hwt hw2 hw4 hres
  go_enter Tryz.func14, Tryz.ntmps14
  go_upto_region 1 with fail
  rw [← hX]
  clear hX
  generalize w.alloc X = w1 at HB1 c0 c1 c2 c3 ⊢
  by_cases hk1 : k = 1
  · subst hk1
    have HLg := Lib.hid (HLf.out rfl w1 HB1.out.1)
    clear HLf
    go_wp2_with fail
    refine HLg.out.mono ?_
    rintro e w2 ⟨rfl, hb2⟩
    have HZ := Lib.hid hb2
    clear hb2
    go_wp2_with fail
    go_ret
    exact ⟨rfl, low_more HB1.out.1 HZ.out⟩
  have HRes2 := Lib.hid (show res = (okI k f ts ks && mayK k (if k = 4 then n + 1 else n) ks) from HRes.out.trans (mayT_eq hk1))
  have ek1 : (k == 1) = false := beq_eq_false_iff_ne.2 hk1
  clear HRes HLf
  by_cases hk2 : k = 2
  case pos =>
    subst hk2
    have HR3 := Lib.hid (show res = (decide (2 ≤ m) && f == 0 && decide (q = 0) && mayK 2 n ks) from by
      rw [HRes2.out, if_neg (by decide), okI_two, HE.out, HN.out])
    clear HRes2 HE
    go_wp2_with fail
    go_quiet (fail)
    rename Nat => m1
    obtain ⟨w2, hw2⟩ : ∃ w2, w2 = w1.drewN m1 := ⟨_, rfl⟩
    rw [← hw2]
    have HB2 := Lib.hid (show Below w.heap.size w w2 ∧ w2.heap[w.heap.size]? = some (.cells #[.int .i64 2, .int .u8 f, .slice ta q tc, .slice ka m kc] 25 (0, 0)) from by
      rw [hw2]
      exact ⟨HB1.out.1.trans ⟨rfl, rfl, rfl, Nat.le_refl _, fun _ _ => rfl⟩, HB1.out.2⟩)
    clear c0 c1 c2 c3 hw2 HB1
    have c0 := cell_at HB2.out.2 0
    have c1 := cell_at HB2.out.2 1
    have c2 := cell_at HB2.out.2 2
    have c3 := cell_at HB2.out.2 3
    simp only [List.getElem?_toArray, List.getElem?_cons_zero, List.getElem?_cons_succ] at c0 c1 c2 c3
    by_cases hf : f = 0
    case neg =>
      have ef : (f != 0) = true := bne_iff_ne.2 hf
      have hz : res = false := by rw [HR3.out, beq_eq_false_iff_ne.2 hf]; simp
      subst hz
      go_wp2_with fail
      go_ret
      exact ⟨rfl, HB2.out.1⟩
    subst hf
    have ef : ((0 : Int) != 0) = false := rfl
    by_cases hq0 : q = 0
    case neg =>
      have hq1 : (0 : Int) < (q : Int) := by omega
      have hz : res = false := by rw [HR3.out, decide_eq_false hq0]; simp
      subst hz
      go_wp2_with fail
      go_ret
      exact ⟨rfl, HB2.out.1⟩
    subst hq0
    by_cases hm2 : 2 ≤ m
    case neg =>
      have hm3 : (m : Int) < 2 := by omega
      have hz : res = false := by rw [HR3.out, decide_eq_false hm2]; rfl
      subst hz
      go_wp2_with fail
      go_ret
      exact ⟨rfl, HB2.out.1⟩
    have hm3 : ¬ (m : Int) < 2 := by omega
    have HR4 := Lib.hid (show res = mayK 2 n ks from by rw [HR3.out, decide_eq_true hm2]; rfl)
    clear HR3
    go_wp2_with fail
    clear c0 c1 c2 c3
    go_loopg [53] m (fun g s53 wr => ∃ (i : Nat), i + g = m ∧ s53 = .int .i64 (i : Int) ∧ Hid (res = mayK 2 n (ks.drop i)) ∧ Hid (Below w2.heap.size w2 wr))
    case atStart => exact ⟨0, by omega, rfl, Lib.hid HR4.out, Lib.hid (Below.refl _ _)⟩
    case round =>
      obtain ⟨i, hig, rfl, HI, HB⟩ := hrel
      cases gk with
      | zero =>
        have hi : m = i := by omega
        have hr2 : res = true := by
          rw [HI.out, List.drop_eq_nil_of_le (by have := HN.out; omega)]; rfl
        subst hr2
        subst hi
        go_wp2_with fail
        go_ret
        exact ⟨rfl, low_more HB2.out.1 HB.out⟩
      | succ g =>
        have hlt : i < m := by omega
        obtain ⟨x, hx⟩ : ∃ x, ks[i]? = some x := ⟨_, List.getElem?_eq_getElem (by rw [← HN.out]; exact hlt)⟩
        obtain ⟨rj, hrj⟩ : ∃ rj, rs[i]? = some rj := ⟨_, List.getElem?_eq_getElem (by rw [HK.out.2.1, ← HN.out]; exact hlt)⟩
        obtain ⟨gj, oj, rfl, hcj⟩ := HK.out.1 i rj hrj
        have hrd := HK.out.2.2 i x rj hx hrj
        have hbw := low_more HB2.out.1 HB.out
        have HI2 := Lib.hid (fun (d : Nat) (hd : d ≤ 8) (b : Bool) (hb : mayT d x = b) (wx : World) (hbx : Below wr.heap.size wr wx) => (show Calls Tryz.prog 14 #[rnV rj, .int .i64 (d : Int)] wx fun e w' => e = .returned (.bool b) ∧ Below wx.heap.size wx w' from hb ▸ HIh.out i x rj hx hrj wx (low_more hbw hbx) d hd))
        have hcons : ks.drop i = x :: ks.drop (i + 1) := by
          obtain ⟨_, he⟩ := List.getElem?_eq_some_iff.1 hx
          rw [← he]
          exact List.drop_eq_getElem_cons (by rw [← HN.out]; exact hlt)
        have hkd := hrd.parts.1
        obtain ⟨k5, f5, tv5, kv5⟩ := rj
        obtain ⟨ta5, tn5, tc5, ka5, kn5, kc5, rfl, rfl⟩ := hrd.slices
        rw [show rnV (k5, f5, .slice ta5 tn5 tc5, .slice ka5 kn5 kc5) = .agg #[.int .i64 k5, .int .u8 f5, .slice ta5 tn5 tc5, .slice ka5 kn5 kc5] from rfl] at HI2
        simp only at hkd
        have HI3 := Lib.hid (show res = (decide ((if brk 2 k5 then n + 1 else n) ≤ 8) && mayT (if brk 2 k5 then n + 1 else n) x && mayK 2 n (ks.drop (i + 1))) from by rw [HI.out, hcons, mayK, ← hkd])
        have e0 := hb_cell hbw (hcj 0 _ rfl)
        have e1 := hb_cell hbw (hcj 1 _ rfl)
        have e2 := hb_cell hbw (hcj 2 _ rfl)
        have e3 := hb_cell hbw (hcj 3 _ rfl)
        rw [Nat.add_zero] at e0
        have c0 := cell_at (blkT HB2.out.2 HB.out) 0
        have c3 := cell_at (blkT HB2.out.2 HB.out) 3
        simp only [List.getElem?_toArray, List.getElem?_cons_zero, List.getElem?_cons_succ] at c0 c3
        have hsw : w.heap.size < wr.heap.size := lt_of_heap (blkT HB2.out.2 HB.out)
        have hltj : (i : Int) < (m : Int) := by omega
        have hi1 : IntKind.i64.wrap ((i : Int) + 1) = (i : Int) + 1 := IntWalk.i64_in _ (by omega)
        have HBw := Lib.hid hbw
        obtain ⟨bk, hbk⟩ : ∃ bk, brk 2 k5 = bk := ⟨_, rfl⟩
        have HBr := Lib.hid (fun wx : World => (show Calls Tryz.prog 24 #[.int .i64 2, .int .i64 k5] wx fun e w' => e = .returned (.bool bk) ∧ w' = wx from hbk ▸ bracketed_any wx 2 k5))
        rw [hbk] at HI3
        have HCx := Lib.hid (heap_alloc_new wr (.cells #[.int .i64 k5, .int .u8 f5, .slice ta5 tn5 tc5, .slice ka5 kn5 kc5] 25))
        clear hx hrj hcj hrd hbw hcons hkd hbk HI
        go_wp2_with fail
        refine (HBr.out _).mono ?_
        rintro e wz ⟨rfl, hwz⟩
        subst hwz
        cases bk
        · have HI4 := Lib.hid (show res = (decide (n ≤ 8) && mayT (n) x && mayK 2 n (ks.drop (i + 1))) from by rw [HI3.out]; rfl)
          clear HI3 HBr
          by_cases hd : n ≤ 8
          case neg =>
            have hz : res = false := by rw [HI4.out, decide_eq_false hd]; rfl
            subst hz
            have hd8 : (8 : Int) < (n : Int) := by omega
            go_wp2_with fail
            go_ret
            exact ⟨rfl, low_more HBw.out below_oneM⟩
          have hd8 : ¬ (8 : Int) < (n : Int) := by omega
          obtain ⟨b, hb⟩ : ∃ b, mayT (n) x = b := ⟨_, rfl⟩
          have HI5 := Lib.hid (HI2.out (n) hd b hb)
          rw [show ((n : Nat) : Int) = (n : Int) from by omega] at HI5
          have HI6 := Lib.hid (show res = (b && mayK 2 n (ks.drop (i + 1))) from by rw [HI4.out, decide_eq_true hd, hb]; rfl)
          clear hb HI4 HI2
          cases b
          · have hz : res = false := by rw [HI6.out]; rfl
            subst hz
            go_wp2_with fail
            refine (HI5.out _ below_oneM).mono ?_
            rintro e wy ⟨rfl, hby⟩
            have HY := Lib.hid (low_more below_oneM hby)
            clear hby
            go_wp2_with fail
            go_ret
            exact ⟨rfl, low_more HBw.out HY.out⟩
          · have HI7 := Lib.hid (show res = mayK 2 n (ks.drop (i + 1)) from by rw [HI6.out]; rfl)
            go_wp2_with fail
            refine (HI5.out _ below_oneM).mono ?_
            rintro e wy ⟨rfl, hby⟩
            have HY := Lib.hid (low_more below_oneM hby)
            clear hby c0 c3 e0 e1 e2 e3
            go_wp2_with fail
            go_roundg g
            case measure => omega
            case rel => exact ⟨i + 1, by omega, by go_num, HI7, Lib.hid (low_more HB.out HY.out)⟩
        · have HI4 := Lib.hid (show res = (decide (n + 1 ≤ 8) && mayT (n + 1) x && mayK 2 n (ks.drop (i + 1))) from by rw [HI3.out]; rfl)
          clear HI3 HBr
          by_cases hd : n + 1 ≤ 8
          case neg =>
            have hz : res = false := by rw [HI4.out, decide_eq_false hd]; rfl
            subst hz
            have hd8 : (8 : Int) < (n : Int) + 1 := by omega
            go_wp2_with fail
            go_ret
            exact ⟨rfl, low_more HBw.out below_oneM⟩
          have hd8 : ¬ (8 : Int) < (n : Int) + 1 := by omega
          obtain ⟨b, hb⟩ : ∃ b, mayT (n + 1) x = b := ⟨_, rfl⟩
          have HI5 := Lib.hid (HI2.out (n + 1) hd b hb)
          rw [show ((n + 1 : Nat) : Int) = (n : Int) + 1 from by omega] at HI5
          have HI6 := Lib.hid (show res = (b && mayK 2 n (ks.drop (i + 1))) from by rw [HI4.out, decide_eq_true hd, hb]; rfl)
          clear hb HI4 HI2
          cases b
          · have hz : res = false := by rw [HI6.out]; rfl
            subst hz
            go_wp2_with fail
            refine (HI5.out _ below_oneM).mono ?_
            rintro e wy ⟨rfl, hby⟩
            have HY := Lib.hid (low_more below_oneM hby)
            clear hby
            go_wp2_with fail
            go_ret
            exact ⟨rfl, low_more HBw.out HY.out⟩
          · have HI7 := Lib.hid (show res = mayK 2 n (ks.drop (i + 1)) from by rw [HI6.out]; rfl)
            go_wp2_with fail
            refine (HI5.out _ below_oneM).mono ?_
            rintro e wy ⟨rfl, hby⟩
            have HY := Lib.hid (low_more below_oneM hby)
            clear hby c0 c3 e0 e1 e2 e3
            go_wp2_with fail
            go_roundg g
            case measure => omega
            case rel => exact ⟨i + 1, by omega, by go_num, HI7, Lib.hid (low_more HB.out HY.out)⟩
  case neg =>
  by_cases hk3 : k = 3
  case pos =>
    subst hk3
    have HR3 := Lib.hid (show res = (decide (2 ≤ m) && f == 0 && decide (q = 0) && mayK 3 n ks) from by
      rw [HRes2.out, if_neg (by decide), okI_three, HE.out, HN.out])
    clear HRes2 HE
    go_wp2_with fail
    go_quiet (fail)
    rename Nat => m1
    obtain ⟨w2, hw2⟩ : ∃ w2, w2 = w1.drewN m1 := ⟨_, rfl⟩
    rw [← hw2]
    have HB2 := Lib.hid (show Below w.heap.size w w2 ∧ w2.heap[w.heap.size]? = some (.cells #[.int .i64 3, .int .u8 f, .slice ta q tc, .slice ka m kc] 25 (0, 0)) from by
      rw [hw2]
      exact ⟨HB1.out.1.trans ⟨rfl, rfl, rfl, Nat.le_refl _, fun _ _ => rfl⟩, HB1.out.2⟩)
    clear c0 c1 c2 c3 hw2 HB1
    have c0 := cell_at HB2.out.2 0
    have c1 := cell_at HB2.out.2 1
    have c2 := cell_at HB2.out.2 2
    have c3 := cell_at HB2.out.2 3
    simp only [List.getElem?_toArray, List.getElem?_cons_zero, List.getElem?_cons_succ] at c0 c1 c2 c3
    by_cases hf : f = 0
    case neg =>
      have ef : (f != 0) = true := bne_iff_ne.2 hf
      have hz : res = false := by rw [HR3.out, beq_eq_false_iff_ne.2 hf]; simp
      subst hz
      go_wp2_with fail
      go_ret
      exact ⟨rfl, HB2.out.1⟩
    subst hf
    have ef : ((0 : Int) != 0) = false := rfl
    by_cases hq0 : q = 0
    case neg =>
      have hq1 : (0 : Int) < (q : Int) := by omega
      have hz : res = false := by rw [HR3.out, decide_eq_false hq0]; simp
      subst hz
      go_wp2_with fail
      go_ret
      exact ⟨rfl, HB2.out.1⟩
    subst hq0
    by_cases hm2 : 2 ≤ m
    case neg =>
      have hm3 : (m : Int) < 2 := by omega
      have hz : res = false := by rw [HR3.out, decide_eq_false hm2]; rfl
      subst hz
      go_wp2_with fail
      go_ret
      exact ⟨rfl, HB2.out.1⟩
    have hm3 : ¬ (m : Int) < 2 := by omega
    have HR4 := Lib.hid (show res = mayK 3 n ks from by rw [HR3.out, decide_eq_true hm2]; rfl)
    clear HR3
    go_wp2_with fail
    clear c0 c1 c2 c3
    go_loopg [53] m (fun g s53 wr => ∃ (i : Nat), i + g = m ∧ s53 = .int .i64 (i : Int) ∧ Hid (res = mayK 3 n (ks.drop i)) ∧ Hid (Below w2.heap.size w2 wr))
    case atStart => exact ⟨0, by omega, rfl, Lib.hid HR4.out, Lib.hid (Below.refl _ _)⟩
    case round =>
      obtain ⟨i, hig, rfl, HI, HB⟩ := hrel
      cases gk with
      | zero =>
        have hi : m = i := by omega
        have hr2 : res = true := by
          rw [HI.out, List.drop_eq_nil_of_le (by have := HN.out; omega)]; rfl
        subst hr2
        subst hi
        go_wp2_with fail
        go_ret
        exact ⟨rfl, low_more HB2.out.1 HB.out⟩
      | succ g =>
        have hlt : i < m := by omega
        obtain ⟨x, hx⟩ : ∃ x, ks[i]? = some x := ⟨_, List.getElem?_eq_getElem (by rw [← HN.out]; exact hlt)⟩
        obtain ⟨rj, hrj⟩ : ∃ rj, rs[i]? = some rj := ⟨_, List.getElem?_eq_getElem (by rw [HK.out.2.1, ← HN.out]; exact hlt)⟩
        obtain ⟨gj, oj, rfl, hcj⟩ := HK.out.1 i rj hrj
        have hrd := HK.out.2.2 i x rj hx hrj
        have hbw := low_more HB2.out.1 HB.out
        have HI2 := Lib.hid (fun (d : Nat) (hd : d ≤ 8) (b : Bool) (hb : mayT d x = b) (wx : World) (hbx : Below wr.heap.size wr wx) => (show Calls Tryz.prog 14 #[rnV rj, .int .i64 (d : Int)] wx fun e w' => e = .returned (.bool b) ∧ Below wx.heap.size wx w' from hb ▸ HIh.out i x rj hx hrj wx (low_more hbw hbx) d hd))
        have hcons : ks.drop i = x :: ks.drop (i + 1) := by
          obtain ⟨_, he⟩ := List.getElem?_eq_some_iff.1 hx
          rw [← he]
          exact List.drop_eq_getElem_cons (by rw [← HN.out]; exact hlt)
        have hkd := hrd.parts.1
        obtain ⟨k5, f5, tv5, kv5⟩ := rj
        obtain ⟨ta5, tn5, tc5, ka5, kn5, kc5, rfl, rfl⟩ := hrd.slices
        rw [show rnV (k5, f5, .slice ta5 tn5 tc5, .slice ka5 kn5 kc5) = .agg #[.int .i64 k5, .int .u8 f5, .slice ta5 tn5 tc5, .slice ka5 kn5 kc5] from rfl] at HI2
        simp only at hkd
        have HI3 := Lib.hid (show res = (decide ((if brk 3 k5 then n + 1 else n) ≤ 8) && mayT (if brk 3 k5 then n + 1 else n) x && mayK 3 n (ks.drop (i + 1))) from by rw [HI.out, hcons, mayK, ← hkd])
        have e0 := hb_cell hbw (hcj 0 _ rfl)
        have e1 := hb_cell hbw (hcj 1 _ rfl)
        have e2 := hb_cell hbw (hcj 2 _ rfl)
        have e3 := hb_cell hbw (hcj 3 _ rfl)
        rw [Nat.add_zero] at e0
        have c0 := cell_at (blkT HB2.out.2 HB.out) 0
        have c3 := cell_at (blkT HB2.out.2 HB.out) 3
        simp only [List.getElem?_toArray, List.getElem?_cons_zero, List.getElem?_cons_succ] at c0 c3
        have hsw : w.heap.size < wr.heap.size := lt_of_heap (blkT HB2.out.2 HB.out)
        have hltj : (i : Int) < (m : Int) := by omega
        have hi1 : IntKind.i64.wrap ((i : Int) + 1) = (i : Int) + 1 := IntWalk.i64_in _ (by omega)
        have HBw := Lib.hid hbw
        obtain ⟨bk, hbk⟩ : ∃ bk, brk 3 k5 = bk := ⟨_, rfl⟩
        have HBr := Lib.hid (fun wx : World => (show Calls Tryz.prog 24 #[.int .i64 3, .int .i64 k5] wx fun e w' => e = .returned (.bool bk) ∧ w' = wx from hbk ▸ bracketed_any wx 3 k5))
        rw [hbk] at HI3
        have HCx := Lib.hid (heap_alloc_new wr (.cells #[.int .i64 k5, .int .u8 f5, .slice ta5 tn5 tc5, .slice ka5 kn5 kc5] 25))
        clear hx hrj hcj hrd hbw hcons hkd hbk HI
        go_wp2_with fail
        refine (HBr.out _).mono ?_
        rintro e wz ⟨rfl, hwz⟩
        subst hwz
        cases bk
        · have HI4 := Lib.hid (show res = (decide (n ≤ 8) && mayT (n) x && mayK 3 n (ks.drop (i + 1))) from by rw [HI3.out]; rfl)
          clear HI3 HBr
          by_cases hd : n ≤ 8
          case neg =>
            have hz : res = false := by rw [HI4.out, decide_eq_false hd]; rfl
            subst hz
            have hd8 : (8 : Int) < (n : Int) := by omega
            go_wp2_with fail
            go_ret
            exact ⟨rfl, low_more HBw.out below_oneM⟩
          have hd8 : ¬ (8 : Int) < (n : Int) := by omega
          obtain ⟨b, hb⟩ : ∃ b, mayT (n) x = b := ⟨_, rfl⟩
          have HI5 := Lib.hid (HI2.out (n) hd b hb)
          rw [show ((n : Nat) : Int) = (n : Int) from by omega] at HI5
          have HI6 := Lib.hid (show res = (b && mayK 3 n (ks.drop (i + 1))) from by rw [HI4.out, decide_eq_true hd, hb]; rfl)
          clear hb HI4 HI2
          cases b
          · have hz : res = false := by rw [HI6.out]; rfl
            subst hz
            go_wp2_with fail
            refine (HI5.out _ below_oneM).mono ?_
            rintro e wy ⟨rfl, hby⟩
            have HY := Lib.hid (low_more below_oneM hby)
            clear hby
            go_wp2_with fail
            go_ret
            exact ⟨rfl, low_more HBw.out HY.out⟩
          · have HI7 := Lib.hid (show res = mayK 3 n (ks.drop (i + 1)) from by rw [HI6.out]; rfl)
            go_wp2_with fail
            refine (HI5.out _ below_oneM).mono ?_
            rintro e wy ⟨rfl, hby⟩
            have HY := Lib.hid (low_more below_oneM hby)
            clear hby c0 c3 e0 e1 e2 e3
            go_wp2_with fail
            go_roundg g
            case measure => omega
            case rel => exact ⟨i + 1, by omega, by go_num, HI7, Lib.hid (low_more HB.out HY.out)⟩
        · have HI4 := Lib.hid (show res = (decide (n + 1 ≤ 8) && mayT (n + 1) x && mayK 3 n (ks.drop (i + 1))) from by rw [HI3.out]; rfl)
          clear HI3 HBr
          by_cases hd : n + 1 ≤ 8
          case neg =>
            have hz : res = false := by rw [HI4.out, decide_eq_false hd]; rfl
            subst hz
            have hd8 : (8 : Int) < (n : Int) + 1 := by omega
            go_wp2_with fail
            go_ret
            exact ⟨rfl, low_more HBw.out below_oneM⟩
          have hd8 : ¬ (8 : Int) < (n : Int) + 1 := by omega
          obtain ⟨b, hb⟩ : ∃ b, mayT (n + 1) x = b := ⟨_, rfl⟩
          have HI5 := Lib.hid (HI2.out (n + 1) hd b hb)
          rw [show ((n + 1 : Nat) : Int) = (n : Int) + 1 from by omega] at HI5
          have HI6 := Lib.hid (show res = (b && mayK 3 n (ks.drop (i + 1))) from by rw [HI4.out, decide_eq_true hd, hb]; rfl)
          clear hb HI4 HI2
          cases b
          · have hz : res = false := by rw [HI6.out]; rfl
            subst hz
            go_wp2_with fail
            refine (HI5.out _ below_oneM).mono ?_
            rintro e wy ⟨rfl, hby⟩
            have HY := Lib.hid (low_more below_oneM hby)
            clear hby
            go_wp2_with fail
            go_ret
            exact ⟨rfl, low_more HBw.out HY.out⟩
          · have HI7 := Lib.hid (show res = mayK 3 n (ks.drop (i + 1)) from by rw [HI6.out]; rfl)
            go_wp2_with fail
            refine (HI5.out _ below_oneM).mono ?_
            rintro e wy ⟨rfl, hby⟩
            have HY := Lib.hid (low_more below_oneM hby)
            clear hby c0 c3 e0 e1 e2 e3
            go_wp2_with fail
            go_roundg g
            case measure => omega
            case rel => exact ⟨i + 1, by omega, by go_num, HI7, Lib.hid (low_more HB.out HY.out)⟩
  case neg =>
  by_cases hk4 : k = 4
  case pos =>
    subst hk4
    have HR3 := Lib.hid (show res = (decide (m = 1) && f == 0 && decide (q = 0) && mayK 4 (n + 1) ks) from by
      rw [HRes2.out, if_pos rfl, okI_four, HE.out, HN.out])
    clear HRes2 HE
    go_wp2_with fail
    go_quiet (fail)
    rename Nat => m1
    obtain ⟨w2, hw2⟩ : ∃ w2, w2 = w1.drewN m1 := ⟨_, rfl⟩
    rw [← hw2]
    have HB2 := Lib.hid (show Below w.heap.size w w2 ∧ w2.heap[w.heap.size]? = some (.cells #[.int .i64 4, .int .u8 f, .slice ta q tc, .slice ka m kc] 25 (0, 0)) from by
      rw [hw2]
      exact ⟨HB1.out.1.trans ⟨rfl, rfl, rfl, Nat.le_refl _, fun _ _ => rfl⟩, HB1.out.2⟩)
    clear c0 c1 c2 c3 hw2 HB1
    have c0 := cell_at HB2.out.2 0
    have c1 := cell_at HB2.out.2 1
    have c2 := cell_at HB2.out.2 2
    have c3 := cell_at HB2.out.2 3
    simp only [List.getElem?_toArray, List.getElem?_cons_zero, List.getElem?_cons_succ] at c0 c1 c2 c3
    by_cases hf : f = 0
    case neg =>
      have ef : (f != 0) = true := bne_iff_ne.2 hf
      have hz : res = false := by rw [HR3.out, beq_eq_false_iff_ne.2 hf]; simp
      subst hz
      go_wp2_with fail
      go_ret
      exact ⟨rfl, HB2.out.1⟩
    subst hf
    have ef : ((0 : Int) != 0) = false := rfl
    by_cases hq0 : q = 0
    case neg =>
      have hq1 : (0 : Int) < (q : Int) := by omega
      have hz : res = false := by rw [HR3.out, decide_eq_false hq0]; simp
      subst hz
      go_wp2_with fail
      go_ret
      exact ⟨rfl, HB2.out.1⟩
    subst hq0
    by_cases hm2 : m = 1
    case neg =>
      have hz : res = false := by rw [HR3.out, decide_eq_false hm2]; rfl
      subst hz
      by_cases hm3 : m = 0
      · subst hm3
        go_wp2_with fail
        go_ret
        exact ⟨rfl, HB2.out.1⟩
      · have hm4 : (1 : Int) < (m : Int) := by omega
        have hm5 : ¬ (m : Int) < 1 := by omega
        go_wp2_with fail
        go_ret
        exact ⟨rfl, HB2.out.1⟩
    have HR4 := Lib.hid (show res = mayK 4 (n + 1) ks from by rw [HR3.out, decide_eq_true hm2]; rfl)
    subst hm2
    clear HR3
    go_wp2_with fail
    clear c0 c1 c2 c3
    go_loopg [53] 1 (fun g s53 wr => ∃ (i : Nat), i + g = 1 ∧ s53 = .int .i64 (i : Int) ∧ Hid (res = mayK 4 (n + 1) (ks.drop i)) ∧ Hid (Below w2.heap.size w2 wr))
    case atStart => exact ⟨0, by omega, rfl, Lib.hid HR4.out, Lib.hid (Below.refl _ _)⟩
    case round =>
      obtain ⟨i, hig, rfl, HI, HB⟩ := hrel
      cases gk with
      | zero =>
        have hi : 1 = i := by omega
        have hr2 : res = true := by
          rw [HI.out, List.drop_eq_nil_of_le (by have := HN.out; omega)]; rfl
        subst hr2
        subst hi
        go_wp2_with fail
        go_ret
        exact ⟨rfl, low_more HB2.out.1 HB.out⟩
      | succ g =>
        have hlt : i < 1 := by omega
        obtain ⟨x, hx⟩ : ∃ x, ks[i]? = some x := ⟨_, List.getElem?_eq_getElem (by rw [← HN.out]; exact hlt)⟩
        obtain ⟨rj, hrj⟩ : ∃ rj, rs[i]? = some rj := ⟨_, List.getElem?_eq_getElem (by rw [HK.out.2.1, ← HN.out]; exact hlt)⟩
        obtain ⟨gj, oj, rfl, hcj⟩ := HK.out.1 i rj hrj
        have hrd := HK.out.2.2 i x rj hx hrj
        have hbw := low_more HB2.out.1 HB.out
        have HI2 := Lib.hid (fun (d : Nat) (hd : d ≤ 8) (b : Bool) (hb : mayT d x = b) (wx : World) (hbx : Below wr.heap.size wr wx) => (show Calls Tryz.prog 14 #[rnV rj, .int .i64 (d : Int)] wx fun e w' => e = .returned (.bool b) ∧ Below wx.heap.size wx w' from hb ▸ HIh.out i x rj hx hrj wx (low_more hbw hbx) d hd))
        have hcons : ks.drop i = x :: ks.drop (i + 1) := by
          obtain ⟨_, he⟩ := List.getElem?_eq_some_iff.1 hx
          rw [← he]
          exact List.drop_eq_getElem_cons (by rw [← HN.out]; exact hlt)
        have hkd := hrd.parts.1
        obtain ⟨k5, f5, tv5, kv5⟩ := rj
        obtain ⟨ta5, tn5, tc5, ka5, kn5, kc5, rfl, rfl⟩ := hrd.slices
        rw [show rnV (k5, f5, .slice ta5 tn5 tc5, .slice ka5 kn5 kc5) = .agg #[.int .i64 k5, .int .u8 f5, .slice ta5 tn5 tc5, .slice ka5 kn5 kc5] from rfl] at HI2
        simp only at hkd
        have HI3 := Lib.hid (show res = (decide ((if brk 4 k5 then (n + 1) + 1 else (n + 1)) ≤ 8) && mayT (if brk 4 k5 then (n + 1) + 1 else (n + 1)) x && mayK 4 (n + 1) (ks.drop (i + 1))) from by rw [HI.out, hcons, mayK, ← hkd])
        have e0 := hb_cell hbw (hcj 0 _ rfl)
        have e1 := hb_cell hbw (hcj 1 _ rfl)
        have e2 := hb_cell hbw (hcj 2 _ rfl)
        have e3 := hb_cell hbw (hcj 3 _ rfl)
        rw [Nat.add_zero] at e0
        have c0 := cell_at (blkT HB2.out.2 HB.out) 0
        have c3 := cell_at (blkT HB2.out.2 HB.out) 3
        simp only [List.getElem?_toArray, List.getElem?_cons_zero, List.getElem?_cons_succ] at c0 c3
        have hsw : w.heap.size < wr.heap.size := lt_of_heap (blkT HB2.out.2 HB.out)
        have hltj : (i : Int) < (1 : Int) := by omega
        have hi1 : IntKind.i64.wrap ((i : Int) + 1) = (i : Int) + 1 := IntWalk.i64_in _ (by omega)
        have HBw := Lib.hid hbw
        obtain ⟨bk, hbk⟩ : ∃ bk, brk 4 k5 = bk := ⟨_, rfl⟩
        have HBr := Lib.hid (fun wx : World => (show Calls Tryz.prog 24 #[.int .i64 4, .int .i64 k5] wx fun e w' => e = .returned (.bool bk) ∧ w' = wx from hbk ▸ bracketed_any wx 4 k5))
        rw [hbk] at HI3
        have HCx := Lib.hid (heap_alloc_new wr (.cells #[.int .i64 k5, .int .u8 f5, .slice ta5 tn5 tc5, .slice ka5 kn5 kc5] 25))
        clear hx hrj hcj hrd hbw hcons hkd hbk HI
        go_wp2_with fail
        refine (HBr.out _).mono ?_
        rintro e wz ⟨rfl, hwz⟩
        subst hwz
        cases bk
        · have HI4 := Lib.hid (show res = (decide ((n + 1) ≤ 8) && mayT ((n + 1)) x && mayK 4 (n + 1) (ks.drop (i + 1))) from by rw [HI3.out]; rfl)
          clear HI3 HBr
          by_cases hd : (n + 1) ≤ 8
          case neg =>
            have hz : res = false := by rw [HI4.out, decide_eq_false hd]; rfl
            subst hz
            have hd8 : (8 : Int) < ((n : Int) + 1) := by omega
            go_wp2_with fail
            go_ret
            exact ⟨rfl, low_more HBw.out below_oneM⟩
          have hd8 : ¬ (8 : Int) < ((n : Int) + 1) := by omega
          obtain ⟨b, hb⟩ : ∃ b, mayT ((n + 1)) x = b := ⟨_, rfl⟩
          have HI5 := Lib.hid (HI2.out ((n + 1)) hd b hb)
          rw [show (((n + 1) : Nat) : Int) = ((n : Int) + 1) from by omega] at HI5
          have HI6 := Lib.hid (show res = (b && mayK 4 (n + 1) (ks.drop (i + 1))) from by rw [HI4.out, decide_eq_true hd, hb]; rfl)
          clear hb HI4 HI2
          cases b
          · have hz : res = false := by rw [HI6.out]; rfl
            subst hz
            go_wp2_with fail
            refine (HI5.out _ below_oneM).mono ?_
            rintro e wy ⟨rfl, hby⟩
            have HY := Lib.hid (low_more below_oneM hby)
            clear hby
            go_wp2_with fail
            go_ret
            exact ⟨rfl, low_more HBw.out HY.out⟩
          · have HI7 := Lib.hid (show res = mayK 4 (n + 1) (ks.drop (i + 1)) from by rw [HI6.out]; rfl)
            go_wp2_with fail
            refine (HI5.out _ below_oneM).mono ?_
            rintro e wy ⟨rfl, hby⟩
            have HY := Lib.hid (low_more below_oneM hby)
            clear hby c0 c3 e0 e1 e2 e3
            go_wp2_with fail
            go_roundg g
            case measure => omega
            case rel => exact ⟨i + 1, by omega, by go_num, HI7, Lib.hid (low_more HB.out HY.out)⟩
        · have HI4 := Lib.hid (show res = (decide ((n + 1) + 1 ≤ 8) && mayT ((n + 1) + 1) x && mayK 4 (n + 1) (ks.drop (i + 1))) from by rw [HI3.out]; rfl)
          clear HI3 HBr
          by_cases hd : (n + 1) + 1 ≤ 8
          case neg =>
            have hz : res = false := by rw [HI4.out, decide_eq_false hd]; rfl
            subst hz
            have hd8 : (8 : Int) < ((n : Int) + 1) + 1 := by omega
            go_wp2_with fail
            go_ret
            exact ⟨rfl, low_more HBw.out below_oneM⟩
          have hd8 : ¬ (8 : Int) < ((n : Int) + 1) + 1 := by omega
          obtain ⟨b, hb⟩ : ∃ b, mayT ((n + 1) + 1) x = b := ⟨_, rfl⟩
          have HI5 := Lib.hid (HI2.out ((n + 1) + 1) hd b hb)
          rw [show (((n + 1) + 1 : Nat) : Int) = ((n : Int) + 1) + 1 from by omega] at HI5
          have HI6 := Lib.hid (show res = (b && mayK 4 (n + 1) (ks.drop (i + 1))) from by rw [HI4.out, decide_eq_true hd, hb]; rfl)
          clear hb HI4 HI2
          cases b
          · have hz : res = false := by rw [HI6.out]; rfl
            subst hz
            go_wp2_with fail
            refine (HI5.out _ below_oneM).mono ?_
            rintro e wy ⟨rfl, hby⟩
            have HY := Lib.hid (low_more below_oneM hby)
            clear hby
            go_wp2_with fail
            go_ret
            exact ⟨rfl, low_more HBw.out HY.out⟩
          · have HI7 := Lib.hid (show res = mayK 4 (n + 1) (ks.drop (i + 1)) from by rw [HI6.out]; rfl)
            go_wp2_with fail
            refine (HI5.out _ below_oneM).mono ?_
            rintro e wy ⟨rfl, hby⟩
            have HY := Lib.hid (low_more below_oneM hby)
            clear hby c0 c3 e0 e1 e2 e3
            go_wp2_with fail
            go_roundg g
            case measure => omega
            case rel => exact ⟨i + 1, by omega, by go_num, HI7, Lib.hid (low_more HB.out HY.out)⟩
  case neg =>
    have hz : res = false := by
      rw [HRes2.out]
      unfold okI
      rw [beq_eq_false_iff_ne.2 hk2, beq_eq_false_iff_ne.2 hk3, beq_eq_false_iff_ne.2 hk4]
      rfl
    subst hz
    have e2 : (k == 2) = false := beq_eq_false_iff_ne.2 hk2
    have e3 : (k == 3) = false := beq_eq_false_iff_ne.2 hk3
    have e4 : (k == 4) = false := beq_eq_false_iff_ne.2 hk4
    go_wp2_with fail
    go_quiet (fail)
    rename Nat => m1
    go_wp2_with fail
    go_ret
    exact ⟨rfl, HB1.out.1.trans ⟨rfl, rfl, rfl, Nat.le_refl _, fun _ _ => rfl⟩⟩
end Go.Proofs.YthkpaelpnofbgaaGreatDoor
/-
  Layer 17 as it landed: a leaf's text. Over the program's own text.
-/
namespace Go.Proofs.YthkpaelpnofbgaaGreatDoor
open Go.RowKit

set_option maxRecDepth 100000 in
theorem gb_blk {a b : World} {v v' : Value} {k : Nat} {o : Obj} (h : GB a v b v') (hk : a.heap[k]? = some o) (hne : v.ownBlock ≠ some k) : b.heap[k]? = some o :=
  (h.g.block k (lt_of_heap hk) (fun e => hne e.symm)).trans hk
set_option maxRecDepth 100000 in
theorem own_lt {w : World} {B : Nat} {v : Value} {l : List Nat} (h : BytesIn w B v l) {k : Nat} (hk : w.heap.size ≤ k) : v.ownBlock ≠ some k := fun e => by
  have := (World.ownsRow.lt h k e).2
  omega
/-- A row of texts of one's own. -/
def StrsIn (w : World) (base : Nat) (v : Value) (xs : List ByteArray) : Prop := w.ownsRow base 9 1 v xs.length (xs.map Value.string)
set_option maxRecDepth 100000 in
theorem info_strQ : (Tryz.prog.info? 9).map (fun i => (i.zero, i.size, i.bytes)) = some (some (.string ⟨#[]⟩), 1, 16) := by kernel_rfl
set_option maxRecDepth 100000 in
theorem strs_low {w w' : World} {B : Nat} {v : Value} {l : List ByteArray} (h : StrsIn w B v l) (k : Below w.heap.size w w') : StrsIn w' B v l := by
  refine ⟨h.1, ?_⟩
  rcases h.2 with hn | ⟨g, cap, cur, rfl, hb, hg, rest⟩
  · exact .inl hn
  · exact .inr ⟨g, cap, cur, rfl, hb, (k.block g (lt_of_heap hg)).trans hg, rest⟩
set_option maxRecDepth 100000 in
theorem strs_kept {a b : World} {v v' u : Value} {B : Nat} {xs : List ByteArray} (h : StrsIn a B u xs) (k : GB a v b v') (hne : ∀ j, v.ownBlock = some j → j < B) : StrsIn b B u xs := by
  refine World.ownsRow.kept h k.g ?_
  cases hu : u.ownBlock with
  | none => exact .inl rfl
  | some j =>
    refine .inr fun e => ?_
    have h1 := hne j e.symm
    have h2 := (World.ownsRow.lt h j hu).1
    omega
section
variable {ops : Array Oper} {rest : List Oper} {o : Oper} {a : Act} {Q : Exit → Act → World → Prop}
set_option maxRecDepth 100000 in
theorem app_strs (w : World) (hgd : o.guard = none) (s x : Operand) (ho : o.op = .call { callee := .builtin .append, args := #[s, x], argTypes := #[65, 65] })
    (B : Nat) (hB : B ≤ w.heap.size) (v : Value) (l : List ByteArray) (hs : a.eval s = v) (hv : StrsIn w B v l) (g : Nat) (t : ByteArray) (hx : a.eval x = .slice (some ⟨g, 0, none⟩) 1 1) (hg : w.heap[g]? = some (.cells #[.string t] 9 (0, 0))) (hl : l.length ≤ 1000000)
    (h : ∀ v' w', StrsIn w' B v' (l ++ [t]) → Below B w w' → (∀ (k : Nat) (cs : Array Value) (ty : TypeId), w.heap[k]? = some (.cells cs ty (0, 0)) → ty ≠ 9 → w'.heap[k]? = some (.cells cs ty (0, 0))) → wpList Tryz.prog ops Q rest (a.put o.dst v') w') : wpList Tryz.prog ops Q (o :: rest) a w := by
  obtain ⟨iB, hi, hz0, hz1, hz2⟩ := info_parts info_strQ
  refine wpList_append_own_at w hgd s x 65 ho B 9 iB _ 1 16 Tryz.underlying65 hi hz0 hz1 hz2 rfl (by decide) v l.length _ hs hv ⟨g, 0, none⟩ 1 1 [.string t] hx (by simp) (fun j u hj => by
      rw [Addr.add_lit, Nat.zero_add, cell_at hg j, List.getElem?_toArray]
      exact hj) (fun u hu => by
      simp at hu
      subst hu
      rfl) (by unfold maxLen; omega) (by omega) hB ?_
  intro v' w' h1 h2 _ _
  refine h v' w' ?_ ((Below.refl B w).grown h2 hB (fun k hk => (World.ownsRow.lt hv k hk).1)) (fun k cs ty hk hne => (h2.block k (lt_of_heap hk) (fun e => ?_)).trans hk)
  rotate_left
  · rcases hv.2 with ⟨rfl, _⟩ | ⟨g5, cap, cur, rfl, _, hg5, _⟩
    · cases e
    · injection e with e
      subst e
      rw [hg5] at hk
      injection hk with hk
      injection hk with _ hk
      exact hne hk.symm
  unfold StrsIn
  rw [List.length_append, List.map_append]
  exact h1
end
set_option maxRecDepth 100000 in
theorem strs_slice {w : World} {B : Nat} {v : Value} {xs : List ByteArray} (h : StrsIn w B v xs) : ∃ oa c, v = .slice oa xs.length c := by
  rcases h.2 with ⟨e, h0⟩ | ⟨g5, c5, _, e, _⟩
  · exact ⟨none, 0, by rw [e, h0]⟩
  · exact ⟨_, c5, e⟩
set_option maxRecDepth 100000 in
/-- Texts joined by blanks. -/
theorem join_inter : ∀ xs : List ByteArray, bytesL ⟨(Lib.join (xs.map (·.data.toList)) [32]).toArray⟩ = interL (xs.map bytesL)
  | [] => rfl
  | [x] => by
    rw [List.map_cons, List.map_nil, Lib.join_one]
    show _ = bytesL x
    unfold bytesL
    simp
  | x :: y :: l => by
    have ih := join_inter (y :: l)
    rw [List.map_cons, List.map_cons, Lib.join_cons] at ih ⊢
    show _ = bytesL x ++ 32 :: interL (bytesL y :: List.map bytesL l)
    rw [← ih]
    unfold bytesL
    simp [Lib.joinTail]
set_option maxRecDepth 100000 in
theorem join_any (w : World) (B : Nat) (oa : Option Addr) (q c : Nat) (xs : List ByteArray) (hq : xs.length = q) (h : StrsIn w B (.slice oa q c) xs) (hq2 : q ≤ 100000) (hl : (interL (xs.map bytesL)).length ≤ 100000) :
    Calls Tryz.prog 38 #[.slice oa q c, .string ⟨#[32]⟩] w fun e w' => ∃ s, e = .returned (.string s) ∧ bytesL s = interL (xs.map bytesL) ∧ Below w.heap.size w w' := by
  by_cases h0 : q = 0
  · subst h0
    have hx : xs = [] := List.eq_nil_of_length_eq_zero hq
    subst hx
    refine (Tryz.strings_Join_none oa c ⟨#[32]⟩ w).mono ?_
    rintro e w' ⟨rfl, rfl⟩
    exact ⟨_, rfl, rfl, Below.refl _ _⟩
  · rcases h.2 with ⟨e, _⟩ | ⟨g, cap, cur, e, _, hg, hn, _⟩
    · injection e with _ e _
      exact absurd e h0
    · injection e with e1 e2 e3
      subst e1
      subst e3
      have hc := World.ownsRow.cells h (g := g) rfl
      have hj : (Lib.join (xs.map (·.data.toList)) [32]).length = (interL (xs.map bytesL)).length := by
        rw [← join_inter xs, bytesL_length]
        show _ = Array.size _
        simp
      have := Tryz.strings_Join g 0 c xs ⟨#[32]⟩ w (fun j x hj => by
        have := hc j (.string x) (by rw [List.getElem?_map, hj]; rfl)
        rwa [Addr.add_lit] at this) (lt_of_heap hg) (by omega) hn (by
        show (Lib.join (xs.map (·.data.toList)) [32]).length ≤ _
        omega)
      rw [hq] at this
      refine this.mono ?_
      rintro e w' ⟨rfl, hb⟩
      exact ⟨_, rfl, join_inter xs, hb⟩
set_option maxRecDepth 100000 in
theorem pad_sum (f : Int) (ts : List Tk) (h : mayLeafB f ts = true) : (interL (padG bytesL 0 ts)).length ≤ 514 + sumT ts := by
  have h2 : mayTs f (-1) ts = true := by unfold mayLeafB at h; rw [Bool.and_eq_true] at h; exact h.2
  have hp := pad_len f ts 0 (-1) (by omega) (by omega) h2 (by omega)
  have hi := inter_len (padG bytesL 0 ts)
  omega

set_option maxRecDepth 100000 in
theorem pad_one (n p : Nat) (f : Int) (s : ByteArray) (z : Int) (ts : List Tk) (hz : z.toNat = p) (h : n < p) : padG bytesL n ((f, s, z) :: ts) = [97] :: padG bytesL (n + 1) ((f, s, z) :: ts) := by
  rw [padG, padG]
  simp only [hz]
  rw [show p - n = (p - (n + 1)) + 1 by omega, List.replicate_succ, show max n p = max (n + 1) p by omega]
  rfl
set_option maxRecDepth 100000 in
theorem pad_here (p : Nat) (f : Int) (s : ByteArray) (z : Int) (ts : List Tk) (hz : z.toNat = p) : padG bytesL p ((f, s, z) :: ts) = bytesL s :: padG bytesL (p + 1) ts := by
  rw [padG]
  simp only [hz]
  rw [Nat.sub_self, Nat.max_self]
  rfl
set_option maxRecDepth 100000 in
set_option maxHeartbeats 8000000 in
theorem showLeaf_any (w : World) (B : Nat) (hB : B ≤ w.heap.size) (k f : Int) (ts : List Tk) (ks : List Nd) (r : Rn) (h : RdN w (fun b => b < B) (.mk k f ts ks) r) (hok : mayLeafB f ts = true) (hf4 : f < 4) (hn3 : ts.length ≤ 3000) (hst : sumT ts ≤ 3000) (l : List Nat) (v : Value) (hv : BytesIn w B v l) (hl : l.length ≤ 2000000) :
    Calls Tryz.prog 25 #[v, rnV r] w fun e w' => ∃ v', e = .returned v' ∧ BytesIn w' B v' (l ++ leafG bytesL f ts) ∧ GB w v w' v' := by
  cases h with
  | @mk _ _ _ _ ta ka tc kc rs hf0 hf1 ht htl htm htb hk hkl hkm hkb hkn hr =>
  obtain ⟨m, hm⟩ : ∃ m, m = ks.length := ⟨_, rfl⟩
  obtain ⟨n, hn⟩ : ∃ n, n = ts.length := ⟨_, rfl⟩
  have HN := Lib.hid hn
  have HTk := Lib.hid (fun wx (hb : Below B w wx) => (show ReadT wx ta ts from readT_keep (S := fun b => b < B) (fun b hb2 _ => hb.block b hb2) ht htb))
  have hmay : mayTs f (-1) ts = true := by unfold mayLeafB at hok; rw [Bool.and_eq_true] at hok; exact hok.2
  have HMay := Lib.hid hmay
  have HSz := Lib.hid (fun t (ht : t ∈ ts) => (show t.2.1.size ≤ 3000 from by have := sumT_mem ht; omega))
  have HLen := Lib.hid (pad_sum f ts hok)
  have HSum := Lib.hid hst
  obtain ⟨fn, hfn⟩ : ∃ fn : Nat, f = (fn : Int) := ⟨f.toNat, by omega⟩
  subst hfn
  have HOne := Lib.hid (show n = 1 → ∃ t, ts = [t] ∧ leafG bytesL (fn : Int) ts = [48 + fn, 58] ++ bytesL t.2.1 from fun h1 => by
    obtain ⟨t, rfl⟩ := List.length_eq_one_iff.1 (hn.symm.trans h1)
    exact ⟨t, rfl, rfl⟩)
  have HMany := Lib.hid (show n ≠ 1 → leafG bytesL (fn : Int) ts = [48 + fn, 58] ++ ([34] ++ (interL (padG bytesL 0 ts) ++ [34])) from fun h1 => by
    unfold leafG
    match ts, h1, hn with
    | [], _, _ => rfl
    | [t], h1, hn => exact absurd hn h1
    | a :: b :: ts, _, _ => rfl)
  obtain ⟨LG, hLG⟩ : ∃ LG, LG = leafG bytesL (fn : Int) ts := ⟨_, rfl⟩
  rw [← hLG] at HOne HMany ⊢
  rw [← hn] at hn3
  have HV := Lib.hid hv
  rw [← hm, ← hn, show rnV (k, (fn : Int), .slice ta n tc, .slice ka m kc) = .agg #[.int .i64 k, .int .u8 (fn : Int), .slice ta n tc, .slice ka m kc] from rfl]
  obtain ⟨X, hX⟩ : ∃ X : Obj, X = .cells #[.int .i64 k, .int .u8 (fn : Int), .slice ta n tc, .slice ka m kc] 25 := ⟨_, rfl⟩
  have hx1 : (w.alloc X).heap[w.heap.size]? = some (.cells #[.int .i64 k, .int .u8 (fn : Int), .slice ta n tc, .slice ka m kc] 25 (0, 0)) := by rw [heap_alloc_new w X, hX]
  have HB1 := Lib.hid (And.intro (below_one (w := w) (A := X)) (And.intro hx1 (show (w.alloc X).heap.size = w.heap.size + 1 from by simp)))
  have c1 := cell_at hx1 1
  have c2 := cell_at hx1 2
  simp only [List.getElem?_toArray, List.getElem?_cons_zero, List.getElem?_cons_succ] at c1 c2
  clear hm hn hf1 ht htl htm htb hk hkl hkm hkb hkn hr hx1 hmay hok hv hLG hst
  go_enter Tryz.func25, Tryz.ntmps25
  go_upto_region 1 with fail
  rw [← hX]
  clear hX
  generalize w.alloc X = w1 at HB1 c1 c2 ⊢
  have HV1 := Lib.hid (bytes_low HV.out HB1.out.1)
  have hs1 : w1.heap.size = w.heap.size + 1 := HB1.out.2.2
  go_wp2_with (at_builtin; refine app_lit _ rfl (.tmp 8) (.tmp 12) rfl B ?c1 v l [48 + fn, 58] rfl (bytes_alloc HV1.out _) (w.heap.size + 1) 2 #[.int .u8 (48 + (fn : Int)), .int .u8 58] rfl ?c4 (by simp) rfl ?c3 ?_)
  case c1 => simp; omega
  case c3 => simp; omega
  case c4 => rw [← HB1.out.2.2]; exact heap_alloc_new w1 _
  intro v1 w2 hv1 hg1
  have HG1 := Lib.hid (show GB w v w2 v1 from (GB.first HB1.out.1 ((GB.refl w1 v).alloc _)).trans hg1)
  have hx2 := gb_blk (((GB.refl w1 v).alloc (.cells #[.int .u8 (48 + (fn : Int)), .int .u8 58] 5)).trans hg1) HB1.out.2.1 (own_lt HV.out (Nat.le_refl _))
  have HX2 := Lib.hid hx2
  have HV2 := Lib.hid hv1
  have hbl := HG1.out.below hB HV.out
  have c2 := cell_at hx2 2
  simp only [List.getElem?_toArray, List.getElem?_cons_zero, List.getElem?_cons_succ] at c2
  have HT2 := Lib.hid (HTk.out w2 hbl)
  have hsw : w.heap.size < w2.heap.size := lt_of_heap hx2
  have hBw2 : B ≤ w2.heap.size := by omega
  clear hv1 hg1 hx2 hbl hs1 c1 HB1 HV1
  by_cases hn1 : n = 1
  · obtain ⟨t, hts, hlg⟩ := HOne.out hn1
    obtain ⟨g, o, rfl, _, k1, _⟩ := HT2.out 0 t (by rw [hts]; rfl)
    have htz := HSz.out t (by rw [hts]; simp)
    obtain ⟨str, hstr⟩ : ∃ str, str = t.2.1 := ⟨_, rfl⟩
    rw [← hstr] at k1 htz hlg
    have HLg := Lib.hid hlg
    rw [show o + 0 * 3 + 1 = o + 1 by omega] at k1
    subst hn1
    clear hts hlg hstr
    go_wp2_with (at_builtin; refine app_str _ rfl (.tmp 18) (.tmp 23) rfl B hBw2 v1 (l ++ [48 + fn, 58]) rfl HV2.out str rfl ?c1 ?_)
    case c1 => first | omega | (simp; omega)
    intro v3 w3 hv3 hg3
    have HV3 := Lib.hid hv3
    have HG3 := Lib.hid (HG1.out.trans hg3)
    clear hv3 hg3
    go_wp2_with fail
    go_ret
    refine ⟨v3, rfl, ?_, HG3.out⟩
    rw [HLg.out]
    simpa using HV3.out
  have hn2 : ((n : Int) == 1) = false := beq_eq_false_iff_ne.2 (by omega)
  go_wp2_with fail
  go_loopg [5, 28] n (fun g s5 s28 wr => ∃ (i : Nat) (xs : List ByteArray) (oa : Option Addr) (q c : Nat), i + g = n ∧ s28 = .int .i64 (i : Int) ∧ s5 = .slice oa q c ∧ Hid (xs.length = q) ∧ Hid (StrsIn wr w2.heap.size (.slice oa q c) xs) ∧ Hid (Below w2.heap.size w2 wr) ∧ q ≤ 257 ∧ Hid (xs.map bytesL ++ padG bytesL q (ts.drop i) = padG bytesL 0 ts ∧ mayTs (fn : Int) ((q : Int) - 1) (ts.drop i) = true))
  case atStart => exact ⟨0, [], none, 0, 0, by omega, rfl, rfl, Lib.hid rfl, Lib.hid (World.ownsRow_nil _ _ _ _), Lib.hid (Below.refl _ _), by decide, Lib.hid ⟨rfl, HMay.out⟩⟩
  case round =>
    obtain ⟨i, xs, oa0, q0, c0, hig, rfl, rfl, HQ0, HS, HB, hxs, HI⟩ := hrel
    cases gk with
    | succ g =>
      have hlt : i < n := by omega
      obtain ⟨⟨tf, tt, tp⟩, htt⟩ : ∃ t, ts[i]? = some t := ⟨_, List.getElem?_eq_getElem (by rw [← HN.out]; exact hlt)⟩
      obtain ⟨gt, ot, rfl, k0, k1, k2⟩ := HT2.out i _ htt
      simp only at k0 k1 k2
      have hsz := HSz.out _ (List.mem_of_getElem? htt)
      simp only at hsz
      have hcons : ts.drop i = (tf, tt, tp) :: ts.drop (i + 1) := by
        obtain ⟨_, he⟩ := List.getElem?_eq_some_iff.1 htt
        rw [← he]
        exact List.drop_eq_getElem_cons (by rw [← HN.out]; exact hlt)
      have h1 := HI.out.1
      have h2 := HI.out.2
      rw [hcons] at h1 h2
      rw [mayTs] at h2
      simp only [Bool.and_eq_true, decide_eq_true_eq] at h2
      obtain ⟨⟨⟨⟨p1, p2⟩, _⟩, _⟩, p5⟩ := h2
      obtain ⟨p, hp⟩ : ∃ p : Nat, tp = (p : Int) := ⟨tp.toNat, by omega⟩
      subst hp
      have HP5 := Lib.hid p5
      have HH := Lib.hid h1
      have d0 := hb_cell HB.out k0
      have d1 := hb_cell HB.out k1
      have d2 := hb_cell HB.out k2
      have hap : q0 ≤ p := by omega
      have hp2 : p ≤ 256 := by omega
      have hlti : (i : Int) < (n : Int) := by omega
      have hi1 : IntKind.i64.wrap ((i : Int) + 1) = (i : Int) + 1 := IntWalk.i64_in _ (by omega)
      have hszr := HB.out.size
      have HCx := Lib.hid (heap_alloc_new wr (.cells #[.int .u8 tf, .string tt, .int .i64 (p : Int)] 43))
      have HBx := Lib.hid (low_more HB.out (below_one (w := wr) (A := .cells #[.int .u8 tf, .string tt, .int .i64 (p : Int)] 43)))
      have HSx := Lib.hid (strs_low HS.out (below_one (w := wr) (A := .cells #[.int .u8 tf, .string tt, .int .i64 (p : Int)] 43)))
      clear k0 k1 k2 htt hcons h1 p1 p2 p5 HI HS
      go_wp2_with fail
      generalize wr.alloc (.cells #[.int .u8 tf, .string tt, .int .i64 (p : Int)] 43) = w3 at HCx HBx HSx ⊢
      clear d0 d1 d2 c2
      have hs3 : wr.heap.size < w3.heap.size := lt_of_heap HCx.out
      clear HB hszr
      obtain ⟨tb, htb⟩ : ∃ tb, tb = wr.heap.size := ⟨_, rfl⟩
      rw [← htb] at HCx hs3 ⊢
      clear htb
      go_loopg [5] (p - q0) (fun g2 s5 wy => ∃ (ys : List ByteArray) (oa : Option Addr) (q c : Nat), q + g2 = p ∧ s5 = .slice oa q c ∧ Hid (ys.length = q) ∧ Hid (StrsIn wy w2.heap.size (.slice oa q c) ys) ∧ Hid (Below w2.heap.size w2 wy) ∧ Hid (wy.heap[tb]? = some (.cells #[.int .u8 tf, .string tt, .int .i64 (p : Int)] 43 (0, 0))) ∧ Hid (ys.map bytesL ++ padG bytesL q ((tf, tt, (p : Int)) :: ts.drop (i + 1)) = padG bytesL 0 ts))
      case atStart => exact ⟨xs, oa0, q0, c0, by omega, rfl, HQ0, HSx, HBx, HCx, HH⟩
      case round =>
        obtain ⟨ys, oa5, q, c5, hyg, rfl, HQ, HS, HBy, HCy, HI2⟩ := hrel
        have u2 := cell_at HCy.out 2
        have u1 := cell_at HCy.out 1
        simp only [List.getElem?_toArray, List.getElem?_cons_zero, List.getElem?_cons_succ] at u1 u2
        have hszy := HBy.out.size
        have hszy2 : tb < wr.heap.size := lt_of_heap HCy.out
        cases gk with
        | succ g2 =>
          have hqp : (q : Int) < (p : Int) := by omega
          go_wp2_with (at_builtin; refine app_strs _ rfl (.tmp 37) (.tmp 38) rfl w2.heap.size ?c1 (.slice oa5 q c5) ys rfl ?c2 wr.heap.size ⟨#[97]⟩ rfl (heap_alloc_new wr _) ?c3 ?_)
          case c1 => simp; omega
          case c2 => exact strs_low HS.out (below_one (w := wr) (A := _))
          case c3 => have := HQ.out; omega
          intro v4 w4 hv4 hb4 hk4
          obtain ⟨oa4, c4, rfl⟩ := strs_slice hv4
          have hlen4 : (ys ++ [(⟨#[97]⟩ : ByteArray)]).length = q + 1 := by rw [List.length_append, HQ.out]; rfl
          rw [hlen4] at hv4 ⊢
          have HS4 := Lib.hid hv4
          have HB4 := Lib.hid (show Below w2.heap.size w2 w4 from (HBy.out.alloc HBy.out.size _).trans hb4)
          have HC4 := Lib.hid (hk4 tb _ _ ((below_one (w := wr)).block _ (lt_of_heap HCy.out) |>.trans HCy.out) (by decide))
          have HI4 := Lib.hid (show (ys ++ [(⟨#[97]⟩ : ByteArray)]).map bytesL ++ padG bytesL (q + 1) ((tf, tt, (p : Int)) :: ts.drop (i + 1)) = padG bytesL 0 ts from by
            rw [← HI2.out, pad_one q p tf tt p _ (by omega) (by omega), List.map_append, List.append_assoc]; rfl)
          have HL4 := Lib.hid hlen4
          clear hv4 hb4 hk4 hlen4 u1 u2
          go_wp2_with fail
          go_roundg g2
          case measure => omega
          case rel => exact ⟨_, oa4, q + 1, c4, by omega, rfl, HL4, HS4, HB4, HC4, HI4⟩
        | zero =>
          have hqp : q = p := by omega
          subst hqp
          go_wp2_with (at_builtin; refine app_strs _ rfl (.tmp 40) (.tmp 43) rfl w2.heap.size ?c1 (.slice oa5 q c5) ys rfl ?c2 wr.heap.size tt rfl (heap_alloc_new wr _) ?c3 ?_)
          case c1 => simp; omega
          case c2 => exact strs_low HS.out (below_one (w := wr) (A := _))
          case c3 => have := HQ.out; omega
          intro v4 w4 hv4 hb4 hk4
          obtain ⟨oa4, c4, rfl⟩ := strs_slice hv4
          have hlen4 : (ys ++ [tt]).length = q + 1 := by rw [List.length_append, HQ.out]; rfl
          rw [hlen4] at hv4 ⊢
          have HS4 := Lib.hid hv4
          have HB4 := Lib.hid (show Below w2.heap.size w2 w4 from (HBy.out.alloc HBy.out.size _).trans hb4)
          have HI4 := Lib.hid (show (ys ++ [tt]).map bytesL ++ padG bytesL (q + 1) (ts.drop (i + 1)) = padG bytesL 0 ts from by
            rw [← HI2.out, pad_here q tf tt q _ (by omega), List.map_append, List.append_assoc]; rfl)
          have HP6 := Lib.hid (show mayTs (fn : Int) (((q + 1 : Nat) : Int) - 1) (ts.drop (i + 1)) = true from by
            rw [show ((q + 1 : Nat) : Int) - 1 = (q : Int) by omega]; exact HP5.out)
          have HL4 := Lib.hid hlen4
          clear hv4 hb4 hk4 hlen4 u1 u2
          go_wp2_with fail
          go_roundg g
          case measure => omega
          case rel => exact ⟨i + 1, _, oa4, q + 1, c4, by omega, by go_num, rfl, HL4, HS4, HB4, by omega, Lib.hid ⟨HI4.out, HP6.out⟩⟩
    | zero =>
      have hwh : xs.map bytesL = padG bytesL 0 ts := by
        have h1 := HI.out.1
        rw [List.drop_eq_nil_of_le (by have := HN.out; omega)] at h1
        simpa [padG] using h1
      have HVr := Lib.hid (bytes_low HV2.out HB.out)
      have HGr := Lib.hid (HG1.out.low HB.out)
      have hszr := HB.out.size
      have HWh := Lib.hid hwh
      have HLG := Lib.hid (HMany.out hn1)
      have hi : n = i := by omega
      clear hwh HI HN
      subst hi
      go_wp2_with (at_builtin; refine app_lit _ rfl (.tmp 46) (.tmp 47) rfl B ?c1 v1 (l ++ [48 + fn, 58]) [34] rfl (bytes_alloc HVr.out _) wr.heap.size 1 #[.int .u8 34] rfl (heap_alloc_new wr _) (by simp) rfl ?c3 ?_)
      case c1 => simp; omega
      case c3 => simp; omega
      intro v3 w3 hv3 hg3
      have HS3 := Lib.hid (strs_kept (strs_low HS.out (below_one (w := wr) (A := .cells #[.int .u8 34] 5))) hg3 (fun j hj => (World.ownsRow.lt HV2.out j hj).2))
      have HG3 := Lib.hid ((HGr.out.alloc _).trans hg3)
      obtain ⟨l3, hl3⟩ : ∃ l3, l3 = l ++ [48 + fn, 58, 34] := ⟨_, rfl⟩
      rw [← hl3] at hv3
      have hln3 : l3.length ≤ 2000010 := by rw [hl3]; simp; omega
      have HL3 := Lib.hid hl3
      clear hl3
      have HV3 := Lib.hid hv3
      have hB3 : B ≤ w3.heap.size := by have := hg3.g.size; simp at this; omega
      have HJ := Lib.hid (join_any w3 w2.heap.size oa0 q0 c0 xs HQ0.out HS3.out (by omega) (by rw [HWh.out]; have := HLen.out; have := HSum.out; omega))
      clear hv3 hg3 HVr HGr HS
      go_wp2_with fail
      refine HJ.out.mono ?_
      rintro e w4 ⟨js, rfl, hjs, hb4⟩
      have HV4 := Lib.hid (bytes_low HV3.out hb4)
      have HG4 := Lib.hid (HG3.out.low hb4)
      have hB4 : B ≤ w4.heap.size := Nat.le_trans hB3 hb4.size
      have HJs := Lib.hid (hjs.trans (by rw [HWh.out]))
      have hjl : js.size ≤ 4000 := by
        rw [← bytesL_length, HJs.out]
        have := HLen.out
        have := HSum.out
        omega
      clear hjs hb4 HJ
      go_wp2_with (at_builtin; refine app_str _ rfl (.tmp 48) (.tmp 50) rfl B hB4 v3 l3 rfl HV4.out js rfl ?c1 ?_)
      case c1 => omega
      intro v5 w5 hv5 hg5
      obtain ⟨l5, hl5⟩ : ∃ l5, l5 = l3 ++ bytesL js := ⟨_, rfl⟩
      rw [← hl5] at hv5
      have hln5 : l5.length ≤ 3000000 := by rw [hl5]; simp [bytesL_length]; omega
      have HL5 := Lib.hid hl5
      clear hl5
      have HV5 := Lib.hid hv5
      have HG5 := Lib.hid (HG4.out.trans hg5)
      have hB5 : B ≤ w5.heap.size := Nat.le_trans hB4 hg5.g.size
      clear hv5 hg5
      go_wp2_with (at_builtin; refine app_lit _ rfl (.tmp 51) (.tmp 52) rfl B ?c1 v5 l5 [34] rfl (bytes_alloc HV5.out _) w5.heap.size 1 #[.int .u8 34] rfl (heap_alloc_new w5 _) (by simp) rfl ?c3 ?_)
      case c1 => simp; omega
      case c3 => simp; omega
      intro v6 w6 hv6 hg6
      have HV6 := Lib.hid hv6
      have HG6 := Lib.hid ((HG5.out.alloc _).trans hg6)
      clear hv6 hg6
      go_wp2_with fail
      go_ret
      refine ⟨v6, rfl, ?_, HG6.out⟩
      have := HV6.out
      rw [HL5.out, HL3.out] at this
      rw [HLG.out, ← HJs.out]
      simpa using this
end Go.Proofs.YthkpaelpnofbgaaGreatDoor
