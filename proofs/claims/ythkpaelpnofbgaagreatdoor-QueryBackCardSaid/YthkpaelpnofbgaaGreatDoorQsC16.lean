/-
  The reference of layer 17: how deep a tree is. Over the program's own text.
-/
import Derived.Test.YthkpaelpnofbgaaGreatDoorQsC13
import Derived.Test.YthkpaelpnofbgaaGreatDoorQsC15

namespace Go.Proofs.YthkpaelpnofbgaaGreatDoor
open Go.RowKit

set_option maxRecDepth 100000 in
theorem deepZ_zero (x : Nd) : deepZ 0 x = 99 := by cases x; rw [deepZ, if_pos rfl]
set_option maxRecDepth 100000 in
theorem deepZ_leaf {l : Nat} {f : Int} {ts : List Tk} {ks : List Nd} : deepZ (l + 1) (.mk 1 f ts ks) = if okL f ts ks = true then 0 else 99 := by
  rw [deepZ, if_neg (by omega), if_pos rfl]
set_option maxRecDepth 100000 in
theorem deepZ_node {l : Nat} {k f : Int} {ts : List Tk} {ks : List Nd} (hk : ¬ k = 1) : deepZ (l + 1) (.mk k f ts ks) = if okI k f ts ks = true then deepM (l + 1) k 0 ks + (if k = 4 then 1 else 0) else 99 := by
  rw [deepZ, if_neg (by omega), if_neg hk]

set_option maxRecDepth 100000 in
set_option maxHeartbeats 8000000 in
theorem ref_deep : ∀ (x : Nd), wtN x ≤ 3000 → ∀ (w : World) (S : Nat → Prop) (r : Rn) (l : Nat), RdN w S x r → l ≤ 40 →
    Calls Tryz.prog 22 #[rnV r, .int .i64 (l : Int)] w fun e w' => e = .returned (.int .i64 (deepZ l x)) ∧ Below w.heap.size w w' := by
  refine Nd.ind2 fun k f ts ks ih hwt w S r l h hl40 => ?_
  obtain ⟨hw1, hw2, hw3, hw4⟩ := wt_parts hwt
  have hread := h
  have hpt := h.parts
  cases h with
  | @mk _ _ _ _ ta ka tc kc rs hf0 hf1 ht htl htm htb hk hkl hkm hkb hl hr =>
  have HLf := Lib.hid (fun (b : Bool) (hb : okL f ts ks = b) wx (hbx : Below w.heap.size w wx) => (show Calls Tryz.prog 36 #[rnV (k, f, .slice ta ts.length tc, .slice ka ks.length kc)] wx fun e w' => e = .returned (.bool b) ∧ Below wx.heap.size wx w' from hb ▸ ref_mayLeaf wx S k f ts ks _ (hread.after hbx) (by omega) (fun t ht => by have := hw2 t ht; omega) (by omega)))
  obtain ⟨m, hm⟩ : ∃ m, m = ks.length := ⟨_, rfl⟩
  obtain ⟨q, hq⟩ : ∃ q, q = ts.length := ⟨_, rfl⟩
  have HN := Lib.hid hm
  have HIh := Lib.hid (fun (i : Nat) x r (h1 : ks[i]? = some x) (h2 : rs[i]? = some r) (wx : World) (hb : Below w.heap.size w wx) (d : Nat) (hd : d ≤ 40) => ih x (List.mem_of_getElem? h1) (hw4 x (List.mem_of_getElem? h1)) wx S r d ((hr i x r h1 h2).after hb) hd)
  have HK := Lib.hid (And.intro hk (And.intro hl hr))
  have HE := Lib.hid (show ts.isEmpty = decide (q = 0) by rw [hq]; cases ts <;> simp)
  obtain ⟨res, hres⟩ : ∃ b, b = deepZ l (.mk k f ts ks) := ⟨_, rfl⟩
  rw [← hres]
  have HRes := Lib.hid hres
  rw [← hm] at hw3
  rw [← hq] at hw1
  rw [← hm, ← hq, show rnV (k, f, .slice ta q tc, .slice ka m kc) = .agg #[.int .i64 k, .int .u8 f, .slice ta q tc, .slice ka m kc] from rfl] at HLf
  rw [← hm, ← hq, show rnV (k, f, .slice ta q tc, .slice ka m kc) = .agg #[.int .i64 k, .int .u8 f, .slice ta q tc, .slice ka m kc] from rfl]
  obtain ⟨X, hX⟩ : ∃ X : Obj, X = .cells #[.int .i64 k, .int .u8 f, .slice ta q tc, .slice ka m kc] 25 := ⟨_, rfl⟩
  have hx1 : (w.alloc X).heap[w.heap.size]? = some (.cells #[.int .i64 k, .int .u8 f, .slice ta q tc, .slice ka m kc] 25 (0, 0)) := by rw [heap_alloc_new w X, hX]
  have HB2 := Lib.hid (And.intro (below_one (w := w) (A := X)) hx1)
  have c0 := cell_at hx1 0
  have c1 := cell_at hx1 1
  have c2 := cell_at hx1 2
  have c3 := cell_at hx1 3
  simp only [List.getElem?_toArray, List.getElem?_cons_zero, List.getElem?_cons_succ] at c0 c1 c2 c3
  clear hm hq ih hread hpt hf0 hf1 ht htl htm htb hk hkl hkm hkb hl hr hx1 hwt hw2 hw4 hres
  go_enter Tryz.func22, Tryz.ntmps22
  go_upto_region 1 with fail
  rw [← hX]
  clear hX
  generalize w.alloc X = w2 at HB2 c0 c1 c2 c3 ⊢
  cases l with
  | zero =>
    have hz : res = 99 := by rw [HRes.out, deepZ_zero]
    subst hz
    go_wp2_with fail
    go_ret
    exact ⟨rfl, HB2.out.1⟩
  | succ l =>
  have el : (((l + 1 : Nat) : Int) == 0) = false := beq_eq_false_iff_ne.2 (by omega)
  have el2 : ((l : Int) + 1 == 0) = false := beq_eq_false_iff_ne.2 (by omega)
  by_cases hk1 : k = 1
  · subst hk1
    obtain ⟨b, hb⟩ : ∃ b, okL f ts ks = b := ⟨_, rfl⟩
    have HR2 := Lib.hid (show res = if b = true then 0 else 99 from by rw [HRes.out, deepZ_leaf, hb])
    have HLg := Lib.hid (HLf.out b hb w2 HB2.out.1)
    clear HLf hb HRes
    cases b
    · have hz : res = 99 := by rw [HR2.out]; rfl
      subst hz
      go_wp2_with fail
      refine HLg.out.mono ?_
      rintro e w3 ⟨rfl, hb2⟩
      have HZ := Lib.hid hb2
      clear hb2
      go_wp2_with fail
      go_ret
      exact ⟨rfl, low_more HB2.out.1 HZ.out⟩
    · have hz : res = 0 := by rw [HR2.out]; rfl
      subst hz
      go_wp2_with fail
      refine HLg.out.mono ?_
      rintro e w3 ⟨rfl, hb2⟩
      have HZ := Lib.hid hb2
      clear hb2
      go_wp2_with fail
      go_ret
      exact ⟨rfl, low_more HB2.out.1 HZ.out⟩
  have HR2 := Lib.hid (HRes.out.trans (deepZ_node hk1))
  have ek1 : (k == 1) = false := beq_eq_false_iff_ne.2 hk1
  clear HRes HLf
  by_cases hf : f = 0
  case neg =>
    have ef : (f != 0) = true := bne_iff_ne.2 hf
    have hz : res = 99 := by rw [HR2.out, if_neg]; unfold okI; rw [beq_eq_false_iff_ne.2 hf]; simp
    subst hz
    go_wp2_with fail
    go_ret
    exact ⟨rfl, HB2.out.1⟩
  subst hf
  have ef : ((0 : Int) != 0) = false := rfl
  by_cases hq0 : q = 0
  case neg =>
    have hq1 : (0 : Int) < (q : Int) := by omega
    have hz : res = 99 := by rw [HR2.out, if_neg]; unfold okI; rw [HE.out, decide_eq_false hq0]; simp
    subst hz
    go_wp2_with fail
    go_ret
    exact ⟨rfl, HB2.out.1⟩
  subst hq0
  by_cases hk2 : k = 2
  case pos =>
    subst hk2
    have HR3 := Lib.hid (show res = if decide (2 ≤ m) = true then deepM (l + 1) 2 0 ks else 99 from by
      rw [HR2.out, okI_two, HE.out, HN.out]
      simp)
    clear HR2 HE
    by_cases hm2 : 2 ≤ m
    case neg =>
      have hm3 : (m : Int) < 2 := by omega
      have hz : res = 99 := by rw [HR3.out, decide_eq_false hm2]; rfl
      subst hz
      go_wp2_with fail
      go_ret
      exact ⟨rfl, HB2.out.1⟩
    have hm3 : ¬ (m : Int) < 2 := by omega
    have HR4 := Lib.hid (show res = deepM (l + 1) 2 0 ks from by rw [HR3.out, decide_eq_true hm2]; rfl)
    clear HR3
    go_wp2_with fail
    clear c0 c1 c2 c3
    go_loopg [5, 60] m (fun g s5 s60 wr => ∃ (i : Nat) (most : Int), i + g = m ∧ s60 = .int .i64 (i : Int) ∧ s5 = .int .i64 most ∧ 0 ≤ most ∧ most ≤ 200 ∧ Hid (res = deepM (l + 1) 2 most (ks.drop i)) ∧ Hid (Below w2.heap.size w2 wr))
    case atStart => exact ⟨0, 0, by omega, rfl, rfl, by omega, by omega, Lib.hid HR4.out, Lib.hid (Below.refl _ _)⟩
    case round =>
      obtain ⟨i, most, hig, rfl, rfl, hmo0, hmo1, HI, HB⟩ := hrel
      cases gk with
      | zero =>
        have hi : m = i := by omega
        have hr2 : res = most := by
          rw [HI.out, List.drop_eq_nil_of_le (by have := HN.out; omega)]; rfl
        have c0 := cell_at (blkT HB2.out.2 HB.out) 0
        simp only [List.getElem?_toArray, List.getElem?_cons_zero] at c0
        subst hr2
        subst hi
        go_wp2_with fail
        go_ret
        exact ⟨rfl, low_more HB2.out.1 HB.out⟩
      | succ g =>
        have hlt : i < m := by omega
        obtain ⟨x, hx⟩ : ∃ x, ks[i]? = some x := ⟨_, List.getElem?_eq_getElem (by rw [← HN.out]; exact hlt)⟩
        obtain ⟨rj, hrj⟩ : ∃ rj, rs[i]? = some rj := ⟨_, List.getElem?_eq_getElem (by rw [HK.out.2.1, ← HN.out]; exact hlt)⟩
        obtain ⟨gj, oj, rfl, hcj⟩ := HK.out.1 i rj hrj
        have hrd := HK.out.2.2 i x rj hx hrj
        have hbw := low_more HB2.out.1 HB.out
        obtain ⟨dz, hdz⟩ : ∃ dz, deepZ l x = dz := ⟨_, rfl⟩
        have HI2 := Lib.hid (fun (wx : World) (hbx : Below wr.heap.size wr wx) => (show Calls Tryz.prog 22 #[rnV rj, .int .i64 (l : Int)] wx fun e w' => e = .returned (.int .i64 dz) ∧ Below wx.heap.size wx w' from hdz ▸ HIh.out i x rj hx hrj wx (low_more hbw hbx) l (by omega)))
        have hd0 : 0 ≤ dz := hdz ▸ deepZ_pos l x
        have hd1 : dz ≤ 177 := by
          have := deepZ_room l x
          rw [hdz] at this
          omega
        have hcons : ks.drop i = x :: ks.drop (i + 1) := by
          obtain ⟨_, he⟩ := List.getElem?_eq_some_iff.1 hx
          rw [← he]
          exact List.drop_eq_getElem_cons (by rw [← HN.out]; exact hlt)
        have hkd := hrd.parts.1
        obtain ⟨k5, f5, tv5, kv5⟩ := rj
        obtain ⟨ta5, tn5, tc5, ka5, kn5, kc5, rfl, rfl⟩ := hrd.slices
        rw [show rnV (k5, f5, .slice ta5 tn5 tc5, .slice ka5 kn5 kc5) = .agg #[.int .i64 k5, .int .u8 f5, .slice ta5 tn5 tc5, .slice ka5 kn5 kc5] from rfl] at HI2
        simp only at hkd
        have HI3 := Lib.hid (show res = deepM (l + 1) 2 (max most (dz + (if brk 2 k5 = true then 1 else 0))) (ks.drop (i + 1)) from by rw [HI.out, hcons, deepM, ← hkd, Nat.add_sub_cancel, hdz])
        have e0 := hb_cell hbw (hcj 0 _ rfl)
        have e1 := hb_cell hbw (hcj 1 _ rfl)
        have e2 := hb_cell hbw (hcj 2 _ rfl)
        have e3 := hb_cell hbw (hcj 3 _ rfl)
        rw [Nat.add_zero] at e0
        have c3 := cell_at (blkT HB2.out.2 HB.out) 3
        simp only [List.getElem?_toArray, List.getElem?_cons_zero, List.getElem?_cons_succ] at c3
        have hsw : w.heap.size < wr.heap.size := lt_of_heap (blkT HB2.out.2 HB.out)
        have hltj : (i : Int) < (m : Int) := by omega
        have hi1 : IntKind.i64.wrap ((i : Int) + 1) = (i : Int) + 1 := IntWalk.i64_in _ (by omega)
        have HBw := Lib.hid hbw
        have HCx := Lib.hid (heap_alloc_new wr (.cells #[.int .i64 k5, .int .u8 f5, .slice ta5 tn5 tc5, .slice ka5 kn5 kc5] 25))
        clear hx hrj hcj hrd hbw hcons hkd hdz HI
        go_wp2_with fail
        refine (HI2.out _ below_oneM).mono ?_
        rintro e wz ⟨rfl, hbz⟩
        have HZ := Lib.hid (low_more below_oneM hbz)
        have u0 := cell_at (blk_low HCx.out hbz) 0
        have c0 := cell_at (blkT HB2.out.2 (low_more HB.out HZ.out)) 0
        simp only [List.getElem?_toArray, List.getElem?_cons_zero] at u0 c0
        clear hbz c3 e0 e1 e2 e3 HI2 HCx
        have HI4 := Lib.hid (show res = deepM (l + 1) 2 (max most (dz + (if (k5 == 3 || k5 == 2) = true then 1 else 0))) (ks.drop (i + 1)) from by
          rw [HI3.out]
          unfold brk
          simp)
        clear HI3
        obtain ⟨mx, hmx⟩ : ∃ mx, mx = max most (dz + (if (k5 == 3 || k5 == 2) = true then 1 else 0)) := ⟨_, rfl⟩
        rw [← hmx] at HI4
        have hmx0 : 0 ≤ mx := by omega
        have hmx1 : mx ≤ 200 := by rw [hmx]; split <;> omega
        by_cases h3 : k5 = 3
        · subst h3
          have hxn : (if dz + 1 > most then dz + 1 else most) = mx := by rw [hmx]; simp; (try split) <;> omega
          have hxb : ∀ (ts : Array TypeId) (t : TypeId) (w : World), (Builtin.max_ ts t #[.int .i64 most, .int .i64 (dz + 1)]).run Tryz.prog w = .ok (.int .i64 mx) w := fun ts t w => by rw [run_max_int2, hxn]
          clear hmx hxn
          go_wp2_with fail
          go_roundg g
          case measure => omega
          case rel => exact ⟨i + 1, mx, by omega, by go_num, rfl, hmx0, hmx1, HI4, Lib.hid (low_more HB.out HZ.out)⟩
        have e3 : (k5 == 3) = false := beq_eq_false_iff_ne.2 h3
        rw [e3] at hmx
        by_cases h2 : k5 = 2
        · subst h2
          have hxn : (if dz + 1 > most then dz + 1 else most) = mx := by rw [hmx]; simp; (try split) <;> omega
          have hxb : ∀ (ts : Array TypeId) (t : TypeId) (w : World), (Builtin.max_ ts t #[.int .i64 most, .int .i64 (dz + 1)]).run Tryz.prog w = .ok (.int .i64 mx) w := fun ts t w => by rw [run_max_int2, hxn]
          clear hmx hxn
          go_wp2_with fail
          go_roundg g
          case measure => omega
          case rel => exact ⟨i + 1, mx, by omega, by go_num, rfl, hmx0, hmx1, HI4, Lib.hid (low_more HB.out HZ.out)⟩
        have e2 : (k5 == 2) = false := beq_eq_false_iff_ne.2 h2
        rw [e2] at hmx
        have hxn : (if dz > most then dz else most) = mx := by rw [hmx]; simp; (try split) <;> omega
        have hxb : ∀ (ts : Array TypeId) (t : TypeId) (w : World), (Builtin.max_ ts t #[.int .i64 most, .int .i64 (dz)]).run Tryz.prog w = .ok (.int .i64 mx) w := fun ts t w => by rw [run_max_int2, hxn]
        clear hmx hxn
        go_wp2_with fail
        go_roundg g
        case measure => omega
        case rel => exact ⟨i + 1, mx, by omega, by go_num, rfl, hmx0, hmx1, HI4, Lib.hid (low_more HB.out HZ.out)⟩
  case neg =>
  by_cases hk3 : k = 3
  case pos =>
    subst hk3
    have HR3 := Lib.hid (show res = if decide (2 ≤ m) = true then deepM (l + 1) 3 0 ks else 99 from by
      rw [HR2.out, okI_three, HE.out, HN.out]
      simp)
    clear HR2 HE
    by_cases hm2 : 2 ≤ m
    case neg =>
      have hm3 : (m : Int) < 2 := by omega
      have hz : res = 99 := by rw [HR3.out, decide_eq_false hm2]; rfl
      subst hz
      go_wp2_with fail
      go_ret
      exact ⟨rfl, HB2.out.1⟩
    have hm3 : ¬ (m : Int) < 2 := by omega
    have HR4 := Lib.hid (show res = deepM (l + 1) 3 0 ks from by rw [HR3.out, decide_eq_true hm2]; rfl)
    clear HR3
    go_wp2_with fail
    clear c0 c1 c2 c3
    go_loopg [5, 60] m (fun g s5 s60 wr => ∃ (i : Nat) (most : Int), i + g = m ∧ s60 = .int .i64 (i : Int) ∧ s5 = .int .i64 most ∧ 0 ≤ most ∧ most ≤ 200 ∧ Hid (res = deepM (l + 1) 3 most (ks.drop i)) ∧ Hid (Below w2.heap.size w2 wr))
    case atStart => exact ⟨0, 0, by omega, rfl, rfl, by omega, by omega, Lib.hid HR4.out, Lib.hid (Below.refl _ _)⟩
    case round =>
      obtain ⟨i, most, hig, rfl, rfl, hmo0, hmo1, HI, HB⟩ := hrel
      cases gk with
      | zero =>
        have hi : m = i := by omega
        have hr2 : res = most := by
          rw [HI.out, List.drop_eq_nil_of_le (by have := HN.out; omega)]; rfl
        have c0 := cell_at (blkT HB2.out.2 HB.out) 0
        simp only [List.getElem?_toArray, List.getElem?_cons_zero] at c0
        subst hr2
        subst hi
        go_wp2_with fail
        go_ret
        exact ⟨rfl, low_more HB2.out.1 HB.out⟩
      | succ g =>
        have hlt : i < m := by omega
        obtain ⟨x, hx⟩ : ∃ x, ks[i]? = some x := ⟨_, List.getElem?_eq_getElem (by rw [← HN.out]; exact hlt)⟩
        obtain ⟨rj, hrj⟩ : ∃ rj, rs[i]? = some rj := ⟨_, List.getElem?_eq_getElem (by rw [HK.out.2.1, ← HN.out]; exact hlt)⟩
        obtain ⟨gj, oj, rfl, hcj⟩ := HK.out.1 i rj hrj
        have hrd := HK.out.2.2 i x rj hx hrj
        have hbw := low_more HB2.out.1 HB.out
        obtain ⟨dz, hdz⟩ : ∃ dz, deepZ l x = dz := ⟨_, rfl⟩
        have HI2 := Lib.hid (fun (wx : World) (hbx : Below wr.heap.size wr wx) => (show Calls Tryz.prog 22 #[rnV rj, .int .i64 (l : Int)] wx fun e w' => e = .returned (.int .i64 dz) ∧ Below wx.heap.size wx w' from hdz ▸ HIh.out i x rj hx hrj wx (low_more hbw hbx) l (by omega)))
        have hd0 : 0 ≤ dz := hdz ▸ deepZ_pos l x
        have hd1 : dz ≤ 177 := by
          have := deepZ_room l x
          rw [hdz] at this
          omega
        have hcons : ks.drop i = x :: ks.drop (i + 1) := by
          obtain ⟨_, he⟩ := List.getElem?_eq_some_iff.1 hx
          rw [← he]
          exact List.drop_eq_getElem_cons (by rw [← HN.out]; exact hlt)
        have hkd := hrd.parts.1
        obtain ⟨k5, f5, tv5, kv5⟩ := rj
        obtain ⟨ta5, tn5, tc5, ka5, kn5, kc5, rfl, rfl⟩ := hrd.slices
        rw [show rnV (k5, f5, .slice ta5 tn5 tc5, .slice ka5 kn5 kc5) = .agg #[.int .i64 k5, .int .u8 f5, .slice ta5 tn5 tc5, .slice ka5 kn5 kc5] from rfl] at HI2
        simp only at hkd
        have HI3 := Lib.hid (show res = deepM (l + 1) 3 (max most (dz + (if brk 3 k5 = true then 1 else 0))) (ks.drop (i + 1)) from by rw [HI.out, hcons, deepM, ← hkd, Nat.add_sub_cancel, hdz])
        have e0 := hb_cell hbw (hcj 0 _ rfl)
        have e1 := hb_cell hbw (hcj 1 _ rfl)
        have e2 := hb_cell hbw (hcj 2 _ rfl)
        have e3 := hb_cell hbw (hcj 3 _ rfl)
        rw [Nat.add_zero] at e0
        have c3 := cell_at (blkT HB2.out.2 HB.out) 3
        simp only [List.getElem?_toArray, List.getElem?_cons_zero, List.getElem?_cons_succ] at c3
        have hsw : w.heap.size < wr.heap.size := lt_of_heap (blkT HB2.out.2 HB.out)
        have hltj : (i : Int) < (m : Int) := by omega
        have hi1 : IntKind.i64.wrap ((i : Int) + 1) = (i : Int) + 1 := IntWalk.i64_in _ (by omega)
        have HBw := Lib.hid hbw
        have HCx := Lib.hid (heap_alloc_new wr (.cells #[.int .i64 k5, .int .u8 f5, .slice ta5 tn5 tc5, .slice ka5 kn5 kc5] 25))
        clear hx hrj hcj hrd hbw hcons hkd hdz HI
        go_wp2_with fail
        refine (HI2.out _ below_oneM).mono ?_
        rintro e wz ⟨rfl, hbz⟩
        have HZ := Lib.hid (low_more below_oneM hbz)
        have u0 := cell_at (blk_low HCx.out hbz) 0
        have c0 := cell_at (blkT HB2.out.2 (low_more HB.out HZ.out)) 0
        simp only [List.getElem?_toArray, List.getElem?_cons_zero] at u0 c0
        clear hbz c3 e0 e1 e2 e3 HI2 HCx
        have HI4 := Lib.hid (show res = deepM (l + 1) 3 (max most (dz + (if (k5 == 3) = true then 1 else 0))) (ks.drop (i + 1)) from by
          rw [HI3.out]
          unfold brk
          simp)
        clear HI3
        obtain ⟨mx, hmx⟩ : ∃ mx, mx = max most (dz + (if (k5 == 3) = true then 1 else 0)) := ⟨_, rfl⟩
        rw [← hmx] at HI4
        have hmx0 : 0 ≤ mx := by omega
        have hmx1 : mx ≤ 200 := by rw [hmx]; split <;> omega
        by_cases h3 : k5 = 3
        · subst h3
          have hxn : (if dz + 1 > most then dz + 1 else most) = mx := by rw [hmx]; simp; (try split) <;> omega
          have hxb : ∀ (ts : Array TypeId) (t : TypeId) (w : World), (Builtin.max_ ts t #[.int .i64 most, .int .i64 (dz + 1)]).run Tryz.prog w = .ok (.int .i64 mx) w := fun ts t w => by rw [run_max_int2, hxn]
          clear hmx hxn
          go_wp2_with fail
          go_roundg g
          case measure => omega
          case rel => exact ⟨i + 1, mx, by omega, by go_num, rfl, hmx0, hmx1, HI4, Lib.hid (low_more HB.out HZ.out)⟩
        have e3 : (k5 == 3) = false := beq_eq_false_iff_ne.2 h3
        rw [e3] at hmx
        by_cases h2 : k5 = 2
        · subst h2
          have hxn : (if dz > most then dz else most) = mx := by rw [hmx]; simp; (try split) <;> omega
          have hxb : ∀ (ts : Array TypeId) (t : TypeId) (w : World), (Builtin.max_ ts t #[.int .i64 most, .int .i64 (dz)]).run Tryz.prog w = .ok (.int .i64 mx) w := fun ts t w => by rw [run_max_int2, hxn]
          clear hmx hxn
          go_wp2_with fail
          go_roundg g
          case measure => omega
          case rel => exact ⟨i + 1, mx, by omega, by go_num, rfl, hmx0, hmx1, HI4, Lib.hid (low_more HB.out HZ.out)⟩
        have e2 : (k5 == 2) = false := beq_eq_false_iff_ne.2 h2
        have hxn : (if dz > most then dz else most) = mx := by rw [hmx]; simp; (try split) <;> omega
        have hxb : ∀ (ts : Array TypeId) (t : TypeId) (w : World), (Builtin.max_ ts t #[.int .i64 most, .int .i64 (dz)]).run Tryz.prog w = .ok (.int .i64 mx) w := fun ts t w => by rw [run_max_int2, hxn]
        clear hmx hxn
        go_wp2_with fail
        go_roundg g
        case measure => omega
        case rel => exact ⟨i + 1, mx, by omega, by go_num, rfl, hmx0, hmx1, HI4, Lib.hid (low_more HB.out HZ.out)⟩
  case neg =>
  by_cases hk4 : k = 4
  case pos =>
    subst hk4
    have HR3 := Lib.hid (show res = if decide (m = 1) = true then deepM (l + 1) 4 0 ks + 1 else 99 from by
      rw [HR2.out, okI_four, HE.out, HN.out]
      simp)
    clear HR2 HE
    by_cases hm2 : m = 1
    case neg =>
      have hz : res = 99 := by rw [HR3.out, decide_eq_false hm2]; rfl
      have em : ((m : Int) != 1) = true := bne_iff_ne.2 (by omega)
      subst hz
      go_wp2_with fail
      go_ret
      exact ⟨rfl, HB2.out.1⟩
    have HR4 := Lib.hid (show res = deepM (l + 1) 4 0 ks + 1 from by rw [HR3.out, decide_eq_true hm2]; rfl)
    subst hm2
    clear HR3
    go_wp2_with fail
    clear c0 c1 c2 c3
    go_loopg [5, 60] 1 (fun g s5 s60 wr => ∃ (i : Nat) (most : Int), i + g = 1 ∧ s60 = .int .i64 (i : Int) ∧ s5 = .int .i64 most ∧ 0 ≤ most ∧ most ≤ 200 ∧ Hid (res = deepM (l + 1) 4 most (ks.drop i) + 1) ∧ Hid (Below w2.heap.size w2 wr))
    case atStart => exact ⟨0, 0, by omega, rfl, rfl, by omega, by omega, Lib.hid HR4.out, Lib.hid (Below.refl _ _)⟩
    case round =>
      obtain ⟨i, most, hig, rfl, rfl, hmo0, hmo1, HI, HB⟩ := hrel
      cases gk with
      | zero =>
        have hi : 1 = i := by omega
        have hr2 : res = most + 1 := by
          rw [HI.out, List.drop_eq_nil_of_le (by have := HN.out; omega)]; rfl
        have c0 := cell_at (blkT HB2.out.2 HB.out) 0
        simp only [List.getElem?_toArray, List.getElem?_cons_zero] at c0
        subst hr2
        subst hi
        go_wp2_with fail
        go_ret
        exact ⟨rfl, low_more HB2.out.1 HB.out⟩
      | succ g =>
        have hlt : i < 1 := by omega
        obtain ⟨x, hx⟩ : ∃ x, ks[i]? = some x := ⟨_, List.getElem?_eq_getElem (by rw [← HN.out]; exact hlt)⟩
        obtain ⟨rj, hrj⟩ : ∃ rj, rs[i]? = some rj := ⟨_, List.getElem?_eq_getElem (by rw [HK.out.2.1, ← HN.out]; exact hlt)⟩
        obtain ⟨gj, oj, rfl, hcj⟩ := HK.out.1 i rj hrj
        have hrd := HK.out.2.2 i x rj hx hrj
        have hbw := low_more HB2.out.1 HB.out
        obtain ⟨dz, hdz⟩ : ∃ dz, deepZ l x = dz := ⟨_, rfl⟩
        have HI2 := Lib.hid (fun (wx : World) (hbx : Below wr.heap.size wr wx) => (show Calls Tryz.prog 22 #[rnV rj, .int .i64 (l : Int)] wx fun e w' => e = .returned (.int .i64 dz) ∧ Below wx.heap.size wx w' from hdz ▸ HIh.out i x rj hx hrj wx (low_more hbw hbx) l (by omega)))
        have hd0 : 0 ≤ dz := hdz ▸ deepZ_pos l x
        have hd1 : dz ≤ 177 := by
          have := deepZ_room l x
          rw [hdz] at this
          omega
        have hcons : ks.drop i = x :: ks.drop (i + 1) := by
          obtain ⟨_, he⟩ := List.getElem?_eq_some_iff.1 hx
          rw [← he]
          exact List.drop_eq_getElem_cons (by rw [← HN.out]; exact hlt)
        have hkd := hrd.parts.1
        obtain ⟨k5, f5, tv5, kv5⟩ := rj
        obtain ⟨ta5, tn5, tc5, ka5, kn5, kc5, rfl, rfl⟩ := hrd.slices
        rw [show rnV (k5, f5, .slice ta5 tn5 tc5, .slice ka5 kn5 kc5) = .agg #[.int .i64 k5, .int .u8 f5, .slice ta5 tn5 tc5, .slice ka5 kn5 kc5] from rfl] at HI2
        simp only at hkd
        have HI3 := Lib.hid (show res = deepM (l + 1) 4 (max most (dz + (if brk 4 k5 = true then 1 else 0))) (ks.drop (i + 1)) + 1 from by rw [HI.out, hcons, deepM, ← hkd, Nat.add_sub_cancel, hdz])
        have e0 := hb_cell hbw (hcj 0 _ rfl)
        have e1 := hb_cell hbw (hcj 1 _ rfl)
        have e2 := hb_cell hbw (hcj 2 _ rfl)
        have e3 := hb_cell hbw (hcj 3 _ rfl)
        rw [Nat.add_zero] at e0
        have c3 := cell_at (blkT HB2.out.2 HB.out) 3
        simp only [List.getElem?_toArray, List.getElem?_cons_zero, List.getElem?_cons_succ] at c3
        have hsw : w.heap.size < wr.heap.size := lt_of_heap (blkT HB2.out.2 HB.out)
        have hltj : (i : Int) < (1 : Int) := by omega
        have hi1 : IntKind.i64.wrap ((i : Int) + 1) = (i : Int) + 1 := IntWalk.i64_in _ (by omega)
        have HBw := Lib.hid hbw
        have HCx := Lib.hid (heap_alloc_new wr (.cells #[.int .i64 k5, .int .u8 f5, .slice ta5 tn5 tc5, .slice ka5 kn5 kc5] 25))
        clear hx hrj hcj hrd hbw hcons hkd hdz HI
        go_wp2_with fail
        refine (HI2.out _ below_oneM).mono ?_
        rintro e wz ⟨rfl, hbz⟩
        have HZ := Lib.hid (low_more below_oneM hbz)
        have u0 := cell_at (blk_low HCx.out hbz) 0
        have c0 := cell_at (blkT HB2.out.2 (low_more HB.out HZ.out)) 0
        simp only [List.getElem?_toArray, List.getElem?_cons_zero] at u0 c0
        clear hbz c3 e0 e1 e2 e3 HI2 HCx
        have HI4 := Lib.hid (show res = deepM (l + 1) 4 (max most (dz + (if (k5 == 3 || k5 == 2) = true then 1 else 0))) (ks.drop (i + 1)) + 1 from by
          rw [HI3.out]
          unfold brk
          simp)
        clear HI3
        obtain ⟨mx, hmx⟩ : ∃ mx, mx = max most (dz + (if (k5 == 3 || k5 == 2) = true then 1 else 0)) := ⟨_, rfl⟩
        rw [← hmx] at HI4
        have hmx0 : 0 ≤ mx := by omega
        have hmx1 : mx ≤ 200 := by rw [hmx]; split <;> omega
        by_cases h3 : k5 = 3
        · subst h3
          have hxn : (if dz + 1 > most then dz + 1 else most) = mx := by rw [hmx]; simp; (try split) <;> omega
          have hxb : ∀ (ts : Array TypeId) (t : TypeId) (w : World), (Builtin.max_ ts t #[.int .i64 most, .int .i64 (dz + 1)]).run Tryz.prog w = .ok (.int .i64 mx) w := fun ts t w => by rw [run_max_int2, hxn]
          clear hmx hxn
          go_wp2_with fail
          go_roundg g
          case measure => omega
          case rel => exact ⟨i + 1, mx, by omega, by go_num, rfl, hmx0, hmx1, HI4, Lib.hid (low_more HB.out HZ.out)⟩
        have e3 : (k5 == 3) = false := beq_eq_false_iff_ne.2 h3
        rw [e3] at hmx
        by_cases h2 : k5 = 2
        · subst h2
          have hxn : (if dz + 1 > most then dz + 1 else most) = mx := by rw [hmx]; simp; (try split) <;> omega
          have hxb : ∀ (ts : Array TypeId) (t : TypeId) (w : World), (Builtin.max_ ts t #[.int .i64 most, .int .i64 (dz + 1)]).run Tryz.prog w = .ok (.int .i64 mx) w := fun ts t w => by rw [run_max_int2, hxn]
          clear hmx hxn
          go_wp2_with fail
          go_roundg g
          case measure => omega
          case rel => exact ⟨i + 1, mx, by omega, by go_num, rfl, hmx0, hmx1, HI4, Lib.hid (low_more HB.out HZ.out)⟩
        have e2 : (k5 == 2) = false := beq_eq_false_iff_ne.2 h2
        rw [e2] at hmx
        have hxn : (if dz > most then dz else most) = mx := by rw [hmx]; simp; (try split) <;> omega
        have hxb : ∀ (ts : Array TypeId) (t : TypeId) (w : World), (Builtin.max_ ts t #[.int .i64 most, .int .i64 (dz)]).run Tryz.prog w = .ok (.int .i64 mx) w := fun ts t w => by rw [run_max_int2, hxn]
        clear hmx hxn
        go_wp2_with fail
        go_roundg g
        case measure => omega
        case rel => exact ⟨i + 1, mx, by omega, by go_num, rfl, hmx0, hmx1, HI4, Lib.hid (low_more HB.out HZ.out)⟩
  case neg =>
    have hz : res = 99 := by
      rw [HR2.out, if_neg]
      unfold okI
      rw [beq_eq_false_iff_ne.2 hk2, beq_eq_false_iff_ne.2 hk3, beq_eq_false_iff_ne.2 hk4]
      simp
    subst hz
    by_cases hlo : k < 2
    · go_wp2_with fail
      go_ret
      exact ⟨rfl, HB2.out.1⟩
    · have hhi : 4 < k := by omega
      go_wp2_with fail
      go_ret
      exact ⟨rfl, HB2.out.1⟩
set_option maxRecDepth 100000 in
set_option maxHeartbeats 4000000 in
theorem ref_may (x : Nd) (hwt : wtN x ≤ 3000) (w : World) (S : Nat → Prop) (r : Rn) (lim ord : Int) (h : RdN w S x r) :
    Calls Tryz.prog 11 #[.agg (qryC r lim ord).toArray] w fun e w' => e = .returned (.bool (mayQ x lim ord)) ∧ Below w.heap.size w w' := by
  obtain ⟨dz, hdz⟩ : ∃ dz, deepZ 40 x = dz := ⟨_, rfl⟩
  have HD := Lib.hid (fun wx (hb : Below w.heap.size w wx) => (show Calls Tryz.prog 22 #[rnV r, .int .i64 40] wx fun e w' => e = .returned (.int .i64 dz) ∧ Below wx.heap.size wx w' from hdz ▸ ref_deep x hwt wx S r 40 (h.after hb) (Nat.le_refl _)))
  obtain ⟨res, hres⟩ : ∃ b, b = mayQ x lim ord := ⟨_, rfl⟩
  rw [← hres]
  have hr2 : res = (decide (0 ≤ lim) && decide (lim ≤ 64) && (ord == 0 || ord == 1) && decide (dz ≤ 8)) := by rw [hres, mayQ, ← hdz, deep_is]
  clear hres hdz
  obtain ⟨k5, f5, tv5, kv5⟩ := r
  obtain ⟨ta5, tn5, tc5, ka5, kn5, kc5, rfl, rfl⟩ := h.slices
  clear h
  rw [show rnV (k5, f5, .slice ta5 tn5 tc5, .slice ka5 kn5 kc5) = .agg #[.int .i64 k5, .int .u8 f5, .slice ta5 tn5 tc5, .slice ka5 kn5 kc5] from rfl] at HD
  rw [show (qryC (k5, f5, .slice ta5 tn5 tc5, .slice ka5 kn5 kc5) lim ord).toArray = #[.int .i64 k5, .int .u8 f5, .slice ta5 tn5 tc5, .slice ka5 kn5 kc5, .int .i64 lim, .int .i64 ord] from rfl]
  by_cases h1 : 0 ≤ lim
  case neg =>
    have hz : res = false := by rw [hr2, decide_eq_false h1]; rfl
    subst hz
    clear hr2
    go_enter Tryz.func11, Tryz.ntmps11
    go_wp2_with fail
    go_ret
    exact ⟨rfl, below_oneM⟩
  by_cases h2 : lim ≤ 64
  case neg =>
    have hz : res = false := by rw [hr2, decide_eq_false h2]; simp
    subst hz
    clear hr2
    go_enter Tryz.func11, Tryz.ntmps11
    go_wp2_with fail
    go_ret
    exact ⟨rfl, below_oneM⟩
  by_cases h3 : ord = 0 ∨ ord = 1
  case neg =>
    have e0 : (ord == 0) = false := beq_eq_false_iff_ne.2 (by omega)
    have e1 : (ord == 1) = false := beq_eq_false_iff_ne.2 (by omega)
    have hz : res = false := by rw [hr2, e0, e1]; simp
    subst hz
    clear hr2
    go_enter Tryz.func11, Tryz.ntmps11
    go_wp2_with fail
    go_ret
    exact ⟨rfl, below_oneM⟩
  have hz : res = decide (dz ≤ 8) := by
    rw [hr2, decide_eq_true h1, decide_eq_true h2]
    rcases h3 with rfl | rfl <;> simp
  clear hr2
  subst hz
  rcases h3 with rfl | rfl
  · go_enter Tryz.func11, Tryz.ntmps11
    go_wp2_with fail
    refine (HD.out _ below_oneM).mono ?_
    rintro e wz ⟨rfl, hb⟩
    have HZ := Lib.hid (low_more below_oneM hb)
    clear hb
    go_wp2_with fail
    go_ret
    exact ⟨rfl, HZ.out⟩
  · go_enter Tryz.func11, Tryz.ntmps11
    go_wp2_with fail
    refine (HD.out _ below_oneM).mono ?_
    rintro e wz ⟨rfl, hb⟩
    have HZ := Lib.hid (low_more below_oneM hb)
    clear hb
    go_wp2_with fail
    go_ret
    exact ⟨rfl, HZ.out⟩
end Go.Proofs.YthkpaelpnofbgaaGreatDoor
/-
  The reference of layer 17: a leaf's text. Over the program's own text.
-/
namespace Go.Proofs.YthkpaelpnofbgaaGreatDoor
open Go.RowKit

/-- A text, or both are much too long. -/
def Cut (s : ByteArray) (L : List Nat) : Prop := bytesL s = L ∨ (1000 < s.size ∧ 1000 < L.length)
set_option maxRecDepth 100000 in
theorem Cut.whole {s : ByteArray} {A L : List Nat} (h : bytesL s ++ A = L) (hA : A = []) : Cut s L := by
  subst hA
  rw [List.append_nil] at h
  exact .inl h
set_option maxRecDepth 100000 in
theorem Cut.big {s : ByteArray} {A L : List Nat} (h : bytesL s ++ A = L) (hs : 1000 < s.size) : Cut s L := by
  refine .inr ⟨hs, ?_⟩
  rw [← h, List.length_append, bytesL_length]
  omega
set_option maxRecDepth 100000 in
theorem Cut.add {s t : ByteArray} {L M : List Nat} (h : Cut s L) (k : Cut t M) : Cut (s ++ t) (L ++ M) := by
  rcases h with h | ⟨h1, h2⟩
  · rcases k with k | ⟨k1, k2⟩
    · exact .inl (by rw [bytesL_append, h, k])
    · exact .inr ⟨by rw [ByteArray.size_append]; omega, by rw [List.length_append]; omega⟩
  · exact .inr ⟨by rw [ByteArray.size_append]; omega, by rw [List.length_append]; omega⟩
set_option maxRecDepth 100000 in
/-- Two texts laid one behind the other. -/
theorem add_text {P : Program} (a b : ByteArray) (h : a.size + b.size ≤ 1000000000) : ∃ X : ByteArray, (∀ w : World, (Op.stringOp .add a b).run P w = .ok (.string X) w) ∧ X = a ++ b ∧ X.size = a.size + b.size :=
  ⟨a ++ b, fun w => run_string_add_sum w a b (by omega), rfl, ByteArray.size_append⟩
set_option maxRecDepth 100000 in
theorem inter_cons (a : List Nat) {L : List (List Nat)} (h : L ≠ []) : interL (a :: L) = a ++ 32 :: interL L := by
  cases L with
  | nil => exact absurd rfl h
  | cons b l => rfl
set_option maxRecDepth 100000 in
theorem pad_ne (g : ByteArray → List Nat) (n : Nat) (t : Tk) (ts : List Tk) : padG g n (t :: ts) ≠ [] := by
  rw [padG]
  intro h
  have := (List.append_eq_nil_iff.1 h).2
  cases this
set_option maxRecDepth 100000 in
theorem pad_step (n p : Nat) (f : Int) (s : ByteArray) (z : Int) (ts : List Tk) (hz : z.toNat = p) (h : n < p) : interL (padG bytesL n ((f, s, z) :: ts)) = [97, 32] ++ interL (padG bytesL (n + 1) ((f, s, z) :: ts)) := by
  have e : padG bytesL n ((f, s, z) :: ts) = [97] :: padG bytesL (n + 1) ((f, s, z) :: ts) := by
    rw [padG, padG]
    simp only [hz]
    rw [show p - n = (p - (n + 1)) + 1 by omega, List.replicate_succ, show max n p = max (n + 1) p by omega]
    rfl
  rw [e, inter_cons _ (pad_ne bytesL _ _ _)]
  rfl
set_option maxRecDepth 100000 in
theorem pad_word (p : Nat) (f : Int) (s : ByteArray) (z : Int) (ts : List Tk) (hz : z.toNat = p) : interL (padG bytesL p ((f, s, z) :: ts)) = bytesL s ++ (if ts = [] then [] else 32 :: interL (padG bytesL (p + 1) ts)) := by
  rw [padG]
  simp only [hz]
  rw [Nat.sub_self, Nat.max_self]
  show interL (bytesL s :: padG bytesL (p + 1) ts) = _
  by_cases h : ts = []
  · subst h; rw [if_pos rfl, List.append_nil]; rfl
  · rw [if_neg h]
    cases ts with
    | nil => exact absurd rfl h
    | cons t ts => rw [inter_cons _ (pad_ne bytesL _ _ _)]

set_option maxRecDepth 100000 in
theorem byte_row (w : World) (c : Array Value) (l : List Nat) (hl : ∀ b ∈ l, b < 256) (hc : c.toList = l.map fun (b : Nat) => Value.int .u8 (b : Int)) (n : Nat) (hn : n = l.length) (hn2 : n ≤ maxLen) : (convert 45 9 (.slice (some ⟨w.heap.size, 0, none⟩) n n)).run Tryz.prog (w.alloc (.cells c 5)) = .ok (.string (byteText l)) (w.alloc (.cells c 5)) := by
  subst hn
  refine bytes_string (base := w.heap.size) (show BytesIn _ _ _ l from ?_) hl
  have := World.ownsRow_lit (base := w.heap.size) (e := 5) (size := 1) w c l.length (Nat.le_refl _) hn2 (by rw [← Array.length_toList, hc, List.length_map]; simp)
  rw [hc] at this
  exact this
set_option maxRecDepth 100000 in
set_option maxHeartbeats 8000000 in
theorem ref_leafs (w : World) (S : Nat → Prop) (k f : Int) (ts : List Tk) (ks : List Nd) (r : Rn) (h : RdN w S (.mk k f ts ks) r) (hok : mayLeafB f ts = true) (hf4 : f < 4) (hn3 : ts.length ≤ 3000) (hsz : ∀ t ∈ ts, t.2.1.size ≤ 3000) :
    Calls Tryz.prog 27 #[rnV r] w fun e w' => ∃ s, e = .returned (.string s) ∧ Cut s (leafG bytesL f ts) ∧ s.size ≤ 5000 ∧ Below w.heap.size w w' := by
  cases h with
  | @mk _ _ _ _ ta ka tc kc rs hf0 hf1 ht htl htm htb hk hkl hkm hkb hl hr =>
  obtain ⟨m, hm⟩ : ∃ m, m = ks.length := ⟨_, rfl⟩
  obtain ⟨n, hn⟩ : ∃ n, n = ts.length := ⟨_, rfl⟩
  have HN := Lib.hid hn
  have HK := Lib.hid (And.intro ht hsz)
  have hmay : mayTs f (-1) ts = true := by unfold mayLeafB at hok; rw [Bool.and_eq_true] at hok; exact hok.2
  have HMay := Lib.hid hmay
  obtain ⟨whole, hwh⟩ : ∃ L, L = interL (padG bytesL 0 ts) := ⟨_, rfl⟩
  have HWh := Lib.hid hwh
  have HLf := Lib.hid (show leafG bytesL f ts = (48 + f.toNat) :: 58 :: (if n = 1 then whole else 34 :: whole ++ [34]) from by
    unfold leafG
    rw [hn, hwh]
    match ts, hok with
    | [], _ => rfl
    | [t], hok =>
      have h0 : t.2.2 = 0 := by unfold mayLeafB at hok; simp at hok; exact hok.1
      obtain ⟨a, b, c⟩ := t
      simp only at h0
      subst h0
      rw [pad_word 0 a b 0 [] rfl]
      simp
    | a :: b :: ts, _ => rw [if_neg (by simp)])
  rw [← hn] at hn3
  rw [← hm, ← hn, show rnV (k, f, .slice ta n tc, .slice ka m kc) = .agg #[.int .i64 k, .int .u8 f, .slice ta n tc, .slice ka m kc] from rfl]
  obtain ⟨X, hX⟩ : ∃ X : Obj, X = .cells #[.int .i64 k, .int .u8 f, .slice ta n tc, .slice ka m kc] 25 := ⟨_, rfl⟩
  have hx1 : (w.alloc X).heap[w.heap.size]? = some (.cells #[.int .i64 k, .int .u8 f, .slice ta n tc, .slice ka m kc] 25 (0, 0)) := by rw [heap_alloc_new w X, hX]
  have HB1 := Lib.hid (And.intro (below_one (w := w) (A := X)) hx1)
  have c1 := cell_at hx1 1
  have c2 := cell_at hx1 2
  simp only [List.getElem?_toArray, List.getElem?_cons_zero, List.getElem?_cons_succ] at c1 c2
  clear hm hn hf1 ht htl htm htb hk hkl hkm hkb hl hr hsz hx1 hmay hwh hok
  go_enter Tryz.func27, Tryz.ntmps27
  go_upto_region 1 with fail
  rw [← hX]
  clear hX
  generalize w.alloc X = w1 at HB1 c1 c2 ⊢
  go_upto_block 0 with fail
  go_cut [3] (fun s3 wx => ∃ str : ByteArray, s3 = .string str ∧ str.size ≤ 4600 ∧ Hid (Cut str whole) ∧ wx = w1)
  case first =>
    go_wp2_with fail
    go_loopg [3, 4, 9] n (fun g s3 s4 s9 wr => ∃ (i a : Nat) (str : ByteArray), i + g = n ∧ s9 = .int .i64 (i : Int) ∧ s4 = .int .i64 (a : Int) ∧ s3 = .string str ∧ str.size ≤ 1000 ∧ a ≤ 257 ∧ Hid (bytesL str ++ interL (padG bytesL a (ts.drop i)) = whole ∧ mayTs f ((a : Int) - 1) (ts.drop i) = true) ∧ wr = w1)
    case atStart => exact ⟨0, 0, ⟨#[]⟩, by omega, rfl, rfl, rfl, by decide, by omega, Lib.hid ⟨by rw [HWh.out]; rfl, HMay.out⟩, rfl⟩
    case round =>
      obtain ⟨i, a, str, hig, rfl, rfl, rfl, hs1, ha, HI, rfl⟩ := hrel
      cases gk with
      | zero =>
        have hi : n = i := by omega
        have HC := Lib.hid (show Cut str whole from Cut.whole HI.out.1 (by rw [List.drop_eq_nil_of_le (by have := HN.out; omega)]; rfl))
        subst hi
        go_wp2_with fail
        go_meet
        exact ⟨str, rfl, by omega, HC, rfl⟩
      | succ g =>
        have hlt : i < n := by omega
        obtain ⟨⟨tf, tt, tp⟩, htt⟩ : ∃ t, ts[i]? = some t := ⟨_, List.getElem?_eq_getElem (by rw [← HN.out]; exact hlt)⟩
        obtain ⟨gt, ot, rfl, k0, k1, k2⟩ := HK.out.1 i _ htt
        simp only at k0 k1 k2
        have hsz := HK.out.2 _ (List.mem_of_getElem? htt)
        simp only at hsz
        have hcons : ts.drop i = (tf, tt, tp) :: ts.drop (i + 1) := by
          obtain ⟨_, he⟩ := List.getElem?_eq_some_iff.1 htt
          rw [← he]
          exact List.drop_eq_getElem_cons (by rw [← HN.out]; exact hlt)
        have h1 := HI.out.1
        have h2 := HI.out.2
        rw [hcons] at h1 h2
        rw [mayTs] at h2
        simp only [Bool.and_eq_true, decide_eq_true_eq] at h2
        obtain ⟨⟨⟨⟨p1, p2⟩, _⟩, _⟩, p5⟩ := h2
        obtain ⟨p, hp⟩ : ∃ p : Nat, tp = (p : Int) := ⟨tp.toNat, by omega⟩
        subst hp
        have HP5 := Lib.hid p5
        have HH := Lib.hid h1
        have d1 := hb_cell HB1.out.1 k1
        have d2 := hb_cell HB1.out.1 k2
        have hap : a ≤ p := by omega
        have hp2 : p ≤ 256 := by omega
        have hlti : (i : Int) < (n : Int) := by omega
        have hrest : ts.drop (i + 1) = [] ↔ ¬ (i : Int) < (n : Int) - 1 := by
          rw [List.drop_eq_nil_iff, ← HN.out]; omega
        have HRest := Lib.hid hrest
        clear k0 k1 k2 htt hcons h1 p1 p2 p5 HI hrest
        go_wp2_with fail
        go_loopg [3, 4] (p - a) (fun g2 s3 s4 wy => ∃ (b : Nat) (st : ByteArray), b + g2 = p ∧ s4 = .int .i64 (b : Int) ∧ s3 = .string st ∧ st.size ≤ 1000 + 2 * b ∧ Hid (bytesL st ++ interL (padG bytesL b ((tf, tt, (p : Int)) :: ts.drop (i + 1))) = whole) ∧ wy = wr)
        case atStart => exact ⟨a, str, by omega, rfl, rfl, by omega, HH, rfl⟩
        case round =>
          obtain ⟨b, st, hbg, rfl, rfl, hs2, HI2, rfl⟩ := hrel
          cases gk with
          | succ g2 =>
            have hbp : (b : Int) < (p : Int) := by omega
            obtain ⟨X2, hadd, hX2, hX3⟩ := add_text (P := Tryz.prog) st ⟨#[97, 32]⟩ (by rw [show (⟨#[97, 32]⟩ : ByteArray).size = 2 from rfl]; omega)
            have hX4 : X2.size ≤ 1000 + 2 * (b + 1) := by rw [hX3, show (⟨#[97, 32]⟩ : ByteArray).size = 2 from rfl]; omega
            have HX := Lib.hid (show bytesL X2 ++ interL (padG bytesL (b + 1) ((tf, tt, (p : Int)) :: ts.drop (i + 1))) = whole from by
              rw [← HI2.out, pad_step b p tf tt p _ (by omega) (by omega), hX2, bytesL_append, List.append_assoc]; rfl)
            clear hX2 hX3
            go_wp2_with fail
            go_roundg g2
            case measure => omega
            case rel => exact ⟨b + 1, X2, by omega, by go_num, rfl, hX4, HX, rfl⟩
          | zero =>
            have hbp : b = p := by omega
            subst hbp
            have HW := Lib.hid (show bytesL st ++ (bytesL tt ++ (if ts.drop (i + 1) = [] then [] else 32 :: interL (padG bytesL (b + 1) (ts.drop (i + 1))))) = whole from by
              rw [← HI2.out, pad_word b tf tt b _ (by omega)])
            obtain ⟨str2, hadd, hX2, hX3⟩ := add_text (P := Tryz.prog) st tt (by omega)
            have hsz2 : str2.size ≤ 4512 := by rw [hX3]; omega
            have HW2 := Lib.hid (show bytesL str2 ++ (if ts.drop (i + 1) = [] then [] else 32 :: interL (padG bytesL (b + 1) (ts.drop (i + 1)))) = whole from by
              rw [← HW.out, hX2, bytesL_append, List.append_assoc])
            have HP6 := Lib.hid (show mayTs f (((b + 1 : Nat) : Int) - 1) (ts.drop (i + 1)) = true from by
              rw [show ((b + 1 : Nat) : Int) - 1 = (b : Int) by omega]; exact HP5.out)
            clear hX2 hX3 HI2 HH
            by_cases hl1 : (i : Int) < (n : Int) - 1
            · obtain ⟨str3, hadd2, hX2, hX3⟩ := add_text (P := Tryz.prog) str2 ⟨#[32]⟩ (by rw [show (⟨#[32]⟩ : ByteArray).size = 1 from rfl]; omega)
              have hsz3 : str3.size ≤ 4600 := by rw [hX3, show (⟨#[32]⟩ : ByteArray).size = 1 from rfl]; omega
              have HN2 := Lib.hid (show bytesL str3 ++ interL (padG bytesL (b + 1) (ts.drop (i + 1))) = whole from by
                rw [← HW2.out, if_neg (fun h => by have := HRest.out.1 h; omega), hX2, bytesL_append, List.append_assoc]; rfl)
              clear hX2 hX3 HW HW2
              by_cases hbig : (1000 : Int) < (str3.size : Int)
              · have HC := Lib.hid (show Cut str3 whole from Cut.big HN2.out (by omega))
                go_wp2_with fail
                go_meet
                exact ⟨str3, rfl, hsz3, HC, rfl⟩
              · have hsm : str3.size ≤ 1000 := by omega
                go_wp2_with fail
                go_roundg g
                case measure => omega
                case rel => exact ⟨i + 1, b + 1, str3, by omega, by go_num, by go_num, rfl, hsm, by omega, Lib.hid ⟨HN2.out, HP6.out⟩, rfl⟩
            · have hsz3 : str2.size ≤ 4600 := by omega
              have HN2 := Lib.hid (show bytesL str2 ++ interL (padG bytesL (b + 1) (ts.drop (i + 1))) = whole from by
                have hz := HRest.out.2 (by omega)
                rw [← HW2.out, if_pos hz, hz]; rfl)
              clear HW HW2
              by_cases hbig : (1000 : Int) < (str2.size : Int)
              · have HC := Lib.hid (show Cut str2 whole from Cut.big HN2.out (by omega))
                go_wp2_with fail
                go_meet
                exact ⟨str2, rfl, hsz3, HC, rfl⟩
              · have hsm : str2.size ≤ 1000 := by omega
                go_wp2_with fail
                go_roundg g
                case measure => omega
                case rel => exact ⟨i + 1, b + 1, str2, by omega, by go_num, by go_num, rfl, hsm, by omega, Lib.hid ⟨HN2.out, HP6.out⟩, rfl⟩
  case rest =>
    obtain ⟨str, rfl, hs, HC, rfl⟩ := hcut
    have hf5 : IntKind.u8.wrap (48 + f) = 48 + f := IntWalk.u8_in _ (by omega)
    obtain ⟨fn, hfn⟩ : ∃ fn : Nat, fn = f.toNat := ⟨_, rfl⟩
    have hfz : f = (fn : Int) := by omega
    rw [← hfn] at HLf
    subst hfz
    have hconv : ∀ wx : World, (convert 45 9 (.slice (some ⟨wx.heap.size, 0, none⟩) 2 2)).run Tryz.prog (wx.alloc (.cells #[.int .u8 (48 + (fn : Int)), .int .u8 58] 5)) = .ok (.string (byteText [48 + fn, 58])) (wx.alloc (.cells #[.int .u8 (48 + (fn : Int)), .int .u8 58] 5)) := fun wx =>
      byte_row wx #[.int .u8 (48 + (fn : Int)), .int .u8 58] [48 + fn, 58] (by intro b hb; simp at hb; omega) (by simp) 2 rfl (by decide)
    have hbt : bytesL (byteText [48 + fn, 58]) = [48 + fn, 58] := bytesL_byteText _ (by intro b hb; simp at hb; omega)
    have hbs : (byteText [48 + fn, 58]).size = 2 := rfl
    generalize byteText [48 + fn, 58] = tag at *
    have HTag := Lib.hid hbt
    clear hbt hfn
    by_cases hn1 : n = 1
    · obtain ⟨str2, hadd, hX2, hX3⟩ := add_text (P := Tryz.prog) tag str (by omega)
      have HC2 := Lib.hid (show Cut str2 (leafG bytesL (fn : Int) ts) from by
        rw [HLf.out, if_pos hn1, hX2]
        exact Cut.add (L := [48 + fn, 58]) (.inl HTag.out) HC.out)
      have hsz2 : str2.size ≤ 5000 := by omega
      clear hX2 hX3 HTag
      subst hn1
      go_wp2_with fail
      go_ret
      exact ⟨str2, rfl, HC2.out, hsz2, HB1.out.1.trans (((Below.refl _ _).alloc (Nat.le_refl _) _).mono HB1.out.1.size)⟩
    · obtain ⟨str2, hadd, hX2, hX3⟩ := add_text (P := Tryz.prog) ⟨#[34]⟩ str (by rw [show (⟨#[34]⟩ : ByteArray).size = 1 from rfl]; omega)
      rw [show (⟨#[34]⟩ : ByteArray).size = 1 from rfl] at hX3
      obtain ⟨str3, hadd3, hY2, hY3⟩ := add_text (P := Tryz.prog) str2 ⟨#[34]⟩ (by rw [show (⟨#[34]⟩ : ByteArray).size = 1 from rfl]; omega)
      rw [show (⟨#[34]⟩ : ByteArray).size = 1 from rfl] at hY3
      obtain ⟨str4, hadd4, hZ2, hZ3⟩ := add_text (P := Tryz.prog) tag str3 (by omega)
      have HC2 := Lib.hid (show Cut str4 (leafG bytesL (fn : Int) ts) from by
        rw [HLf.out, if_neg hn1, hZ2, hY2, hX2]
        exact Cut.add (L := [48 + fn, 58]) (.inl HTag.out) (Cut.add (L := 34 :: whole) (M := [34]) (Cut.add (L := [34]) (.inl rfl) HC.out) (.inl rfl)))
      have hsz2 : str4.size ≤ 5000 := by omega
      have hne : ((n : Int) != 1) = true := bne_iff_ne.2 (by omega)
      clear hX2 hX3 hY2 hY3 hZ2 hZ3 HTag
      go_wp2_with fail
      go_ret
      exact ⟨str4, rfl, HC2.out, hsz2, HB1.out.1.trans (((Below.refl _ _).alloc (Nat.le_refl _) _).mono HB1.out.1.size)⟩
end Go.Proofs.YthkpaelpnofbgaaGreatDoor
