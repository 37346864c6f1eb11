/-
  The reference of layer 17: a tree's text. Over the program's own text.
-/
import Derived.Test.YthkpaelpnofbgaaGreatDoorQsC16

namespace Go.Proofs.YthkpaelpnofbgaaGreatDoor
open Go.RowKit

set_option maxRecDepth 100000 in
theorem showB_leaf {f : Int} {ts : List Tk} {ks : List Nd} : showB (.mk 1 f ts ks) = leafG bytesL f ts := by unfold showB; rw [showG, if_pos rfl]
set_option maxRecDepth 100000 in
theorem showB_not {f : Int} {ts : List Tk} {x : Nd} : showB (.mk 4 f ts [x]) = 33 :: (if brk 4 x.kind = true then 40 :: (showB x ++ [41]) else showB x) := by
  unfold showB
  rw [showG, if_neg (by decide), if_pos rfl, showK, showK, if_pos rfl]
  simp
set_option maxRecDepth 100000 in
theorem showB_more {k f : Int} {ts : List Tk} {ks : List Nd} (h1 : ¬ k = 1) (h4 : ¬ k = 4) : showB (.mk k f ts ks) = showK bytesL k true ks := by
  unfold showB
  rw [showG, if_neg h1, if_neg h4]
  rfl
set_option maxRecDepth 100000 in
set_option maxHeartbeats 4000000 in
theorem ref_brack (w : World) (S : Nat → Prop) (x : Nd) (r : Rn) (b : Bool) (L : List Nat) (N : Nat) (hN : N ≤ 20000000) (h : RdN w S x r)
    (hT : ∀ wx, Below w.heap.size w wx → Calls Tryz.prog 17 #[rnV r] wx fun e w' => ∃ s, e = .returned (.string s) ∧ Cut s L ∧ s.size ≤ N ∧ Below wx.heap.size wx w') :
    Calls Tryz.prog 28 #[rnV r, .bool b] w fun e w' => ∃ s, e = .returned (.string s) ∧ Cut s (if b = true then 40 :: (L ++ [41]) else L) ∧ s.size ≤ N + 2 ∧ Below w.heap.size w w' := by
  have HT := Lib.hid hT
  obtain ⟨k5, f5, tv5, kv5⟩ := r
  obtain ⟨ta5, tn5, tc5, ka5, kn5, kc5, rfl, rfl⟩ := h.slices
  clear h hT
  rw [show rnV (k5, f5, .slice ta5 tn5 tc5, .slice ka5 kn5 kc5) = .agg #[.int .i64 k5, .int .u8 f5, .slice ta5 tn5 tc5, .slice ka5 kn5 kc5] from rfl] at HT ⊢
  cases b
  · go_enter Tryz.func28, Tryz.ntmps28
    go_wp2_with fail
    refine (HT.out _ below_oneM).mono ?_
    rintro e w1 ⟨s, rfl, hc, hs, hb⟩
    have HC := Lib.hid hc
    have HZ := Lib.hid (low_more below_oneM hb)
    clear hc hb
    go_wp2_with fail
    go_ret
    exact ⟨s, rfl, HC.out, by omega, HZ.out⟩
  · go_enter Tryz.func28, Tryz.ntmps28
    go_wp2_with fail
    refine (HT.out _ below_oneM).mono ?_
    rintro e w1 ⟨s, rfl, hc, hs, hb⟩
    have HC := Lib.hid hc
    have HZ := Lib.hid (low_more below_oneM hb)
    clear hc hb
    obtain ⟨X2, hadd, hX2, hX3⟩ := add_text (P := Tryz.prog) ⟨#[40]⟩ s (by rw [show (⟨#[40]⟩ : ByteArray).size = 1 from rfl]; omega)
    rw [show (⟨#[40]⟩ : ByteArray).size = 1 from rfl] at hX3
    obtain ⟨X3, hadd3, hY2, hY3⟩ := add_text (P := Tryz.prog) X2 ⟨#[41]⟩ (by rw [show (⟨#[41]⟩ : ByteArray).size = 1 from rfl]; omega)
    rw [show (⟨#[41]⟩ : ByteArray).size = 1 from rfl] at hY3
    have HC2 := Lib.hid (show Cut X3 (40 :: (L ++ [41])) from by
      rw [hY2, hX2]
      exact Cut.add (L := 40 :: L) (M := [41]) (Cut.add (L := [40]) (.inl rfl) HC.out) (.inl rfl))
    have hsz : X3.size ≤ N + 2 := by omega
    clear hX2 hX3 hY2 hY3
    go_wp2_with fail
    go_ret
    exact ⟨X3, rfl, HC2.out, hsz, HZ.out⟩

set_option maxRecDepth 100000 in
set_option maxHeartbeats 8000000 in
theorem ref_text17 : ∀ (x : Nd), wtN x ≤ 3000 → ∀ (v : Nat), mayT v x = true → ∀ (w : World) (S : Nat → Prop) (r : Rn), RdN w S x r →
    Calls Tryz.prog 17 #[rnV r] w fun e w' => ∃ s, e = .returned (.string s) ∧ Cut s (showB x) ∧ s.size ≤ 6000 * wtN x ∧ Below w.heap.size w w' := by
  refine Nd.ind2 fun k f ts ks ih hwt v hmay w S r h => ?_
  obtain ⟨hw1, hw2, hw3, hw4⟩ := wt_parts hwt
  have hread := h
  have hpt := h.parts
  cases h with
  | @mk _ _ _ _ ta ka tc kc rs hf0 hf1 ht htl htm htb hk hkl hkm hkb hl hr =>
  have HLf := Lib.hid (fun (hk1 : k = 1) wx (hbx : Below w.heap.size w wx) => (show Calls Tryz.prog 27 #[rnV (k, f, .slice ta ts.length tc, .slice ka ks.length kc)] wx fun e w' => ∃ s, e = .returned (.string s) ∧ Cut s (showB (.mk k f ts ks)) ∧ s.size ≤ 5000 ∧ Below wx.heap.size wx w' by
    subst hk1
    obtain ⟨_, _, h4, hok⟩ := may_leaf hmay
    rw [showB_leaf]
    exact ref_leafs wx S 1 f ts ks _ (hread.after hbx) hok h4 (by omega) hw2))
  have hkind := mayT_kind hmay
  obtain ⟨m, hm⟩ : ∃ m, m = ks.length := ⟨_, rfl⟩
  obtain ⟨q, hq⟩ : ∃ q, q = ts.length := ⟨_, rfl⟩
  have HN := Lib.hid hm
  have hkids : ¬ k = 1 → ∀ x ∈ ks, ∃ v', mayT v' x = true := fun h1 x hx => by
    rw [mayT, if_neg h1, Bool.and_eq_true, mayK_iff] at hmay
    exact ⟨_, (hmay.2 x hx).2⟩
  have HIh := Lib.hid (fun (h1 : ¬ k = 1) (i : Nat) x r (hx : ks[i]? = some x) (h2 : rs[i]? = some r) (wx : World) (hb : Below w.heap.size w wx) (b : Bool) => (show Calls Tryz.prog 28 #[rnV r, .bool b] wx fun e w' => ∃ s, e = .returned (.string s) ∧ Cut s (if b = true then 40 :: (showB x ++ [41]) else showB x) ∧ s.size ≤ 6000 * wtN x + 2 ∧ Below wx.heap.size wx w' from by
    obtain ⟨v', hv'⟩ := hkids h1 x (List.mem_of_getElem? hx)
    have hwx := hw4 x (List.mem_of_getElem? hx)
    exact ref_brack wx S x r b (showB x) (6000 * wtN x) (by omega) ((hr i x r hx h2).after hb) (fun wy hby => ih x (List.mem_of_getElem? hx) hwx v' hv' wy S r (((hr i x r hx h2).after hb).after hby))))
  have HK := Lib.hid (And.intro hk (And.intro hl hr))
  have HWk := Lib.hid (fun x (hx : x ∈ ks) => (show wtN x + 1 ≤ wtN (.mk k f ts ks) from by rw [wtN]; have := wtK_mem hx; omega))
  have HMay := Lib.hid hmay
  obtain ⟨W0, hW0⟩ : ∃ W0, W0 = wtN (.mk k f ts ks) := ⟨_, rfl⟩
  have hW1 : 1 ≤ W0 := by rw [hW0]; exact wtN_pos _
  rw [← hW0] at HWk hwt ⊢
  obtain ⟨L0, hL0⟩ : ∃ L0, L0 = showB (.mk k f ts ks) := ⟨_, rfl⟩
  have HL0 := Lib.hid hL0
  rw [← hL0] at HLf ⊢
  rw [← hm] at hw3
  rw [← hq] at hw1
  rw [← hm, ← hq, show rnV (k, f, .slice ta q tc, .slice ka m kc) = .agg #[.int .i64 k, .int .u8 f, .slice ta q tc, .slice ka m kc] from rfl] at HLf
  rw [← hm, ← hq, show rnV (k, f, .slice ta q tc, .slice ka m kc) = .agg #[.int .i64 k, .int .u8 f, .slice ta q tc, .slice ka m kc] from rfl]
  obtain ⟨X, hX⟩ : ∃ X : Obj, X = .cells #[.int .i64 k, .int .u8 f, .slice ta q tc, .slice ka m kc] 25 := ⟨_, rfl⟩
  have hx1 : (w.alloc X).heap[w.heap.size]? = some (.cells #[.int .i64 k, .int .u8 f, .slice ta q tc, .slice ka m kc] 25 (0, 0)) := by rw [heap_alloc_new w X, hX]
  have HB2 := Lib.hid (And.intro (below_one (w := w) (A := X)) hx1)
  have c0 := cell_at hx1 0
  have c1 := cell_at hx1 1
  have c2 := cell_at hx1 2
  have c3 := cell_at hx1 3
  simp only [List.getElem?_toArray, List.getElem?_cons_zero, List.getElem?_cons_succ] at c0 c1 c2 c3
  clear hm hq ih hread hpt hf0 hf1 ht htl htm htb hk hkl hkm hkb hl hr hx1 hw2 hw4 hkids hmay hW0 hL0
  go_enter Tryz.func17, Tryz.ntmps17
  go_upto_region 1 with fail
  rw [← hX]
  clear hX
  generalize w.alloc X = w2 at HB2 c0 c1 c2 c3 ⊢
  rcases hkind with rfl | rfl | rfl | rfl
  · have HLg := Lib.hid (HLf.out rfl w2 HB2.out.1)
    clear HLf
    go_wp2_with fail
    refine HLg.out.mono ?_
    rintro e w3 ⟨s, rfl, hc, hs, hb⟩
    have HZ := Lib.hid hb
    have HC := Lib.hid hc
    clear hb hc
    go_wp2_with fail
    go_ret
    exact ⟨s, rfl, HC.out, by omega, low_more HB2.out.1 HZ.out⟩
  · clear HLf
    have HLs := Lib.hid (show L0 = showK bytesL 2 true ks from by rw [HL0.out, showB_more (by decide) (by decide)])
    clear HL0 HMay
    go_upto_block 1 with fail
    go_cut [3] (fun s3 wx => ∃ str : ByteArray, s3 = .string str ∧ str.size ≤ 6000 * W0 ∧ Hid (Cut str L0) ∧ Hid (Below w2.heap.size w2 wx))
    case rest =>
      obtain ⟨str, rfl, hs, HC, HB⟩ := hcut
      go_wp2_with fail
      go_ret
      exact ⟨str, rfl, HC.out, hs, low_more HB2.out.1 HB.out⟩
    case first =>
      go_wp2_with fail
      clear c0 c1 c2 c3
      go_loopg [3, 37] m (fun g s3 s37 wr => ∃ (i : Nat) (str : ByteArray), i + g = m ∧ s37 = .int .i64 (i : Int) ∧ s3 = .string str ∧ str.size ≤ 1000 ∧ Hid (bytesL str ++ showK bytesL 2 (decide (i = 0)) (ks.drop i) = L0) ∧ Hid (Below w2.heap.size w2 wr))
      case atStart => exact ⟨0, ⟨#[]⟩, by omega, rfl, rfl, by decide, Lib.hid (by rw [HLs.out]; rfl), Lib.hid (Below.refl _ _)⟩
      case round =>
        obtain ⟨i, str, hig, rfl, rfl, hs1, HI, HB⟩ := hrel
        cases gk with
        | zero =>
          have hi : m = i := by omega
          have HC := Lib.hid (show Cut str L0 from Cut.whole HI.out (by rw [List.drop_eq_nil_of_le (by have := HN.out; omega), showK]))
          subst hi
          go_wp2_with fail
          go_meet
          exact ⟨str, rfl, by omega, HC, HB⟩
        | succ g =>
          have hlt : i < m := by omega
          obtain ⟨x, hx⟩ : ∃ x, ks[i]? = some x := ⟨_, List.getElem?_eq_getElem (by rw [← HN.out]; exact hlt)⟩
          obtain ⟨rj, hrj⟩ : ∃ rj, rs[i]? = some rj := ⟨_, List.getElem?_eq_getElem (by rw [HK.out.2.1, ← HN.out]; exact hlt)⟩
          obtain ⟨gj, oj, rfl, hcj⟩ := HK.out.1 i rj hrj
          have hrd := HK.out.2.2 i x rj hx hrj
          have hkd := hrd.parts.1
          have hwx := HWk.out x (List.mem_of_getElem? hx)
          have hbw := low_more HB2.out.1 HB.out
          obtain ⟨NX, hNX⟩ : ∃ NX, NX = 6000 * wtN x + 2 := ⟨_, rfl⟩
          have hNX2 : NX + 1010 ≤ 6000 * W0 := by omega
          have HI2 := Lib.hid (fun (b : Bool) wx (hbx : Below wr.heap.size wr wx) => HIh.out (by decide) i x rj hx hrj wx (low_more hbw hbx) b)
          rw [← hNX] at HI2
          have hcons : ks.drop i = x :: ks.drop (i + 1) := by
            obtain ⟨_, he⟩ := List.getElem?_eq_some_iff.1 hx
            rw [← he]
            exact List.drop_eq_getElem_cons (by rw [← HN.out]; exact hlt)
          obtain ⟨LX, hLX⟩ : ∃ LX, LX = showB x := ⟨_, rfl⟩
          obtain ⟨k5, f5, tv5, kv5⟩ := rj
          obtain ⟨ta5, tn5, tc5, ka5, kn5, kc5, rfl, rfl⟩ := hrd.slices
          rw [show rnV (k5, f5, .slice ta5 tn5 tc5, .slice ka5 kn5 kc5) = .agg #[.int .i64 k5, .int .u8 f5, .slice ta5 tn5 tc5, .slice ka5 kn5 kc5] from rfl, ← hLX] at HI2
          simp only at hkd
          have HI3 := Lib.hid (show bytesL str ++ ((if decide (i = 0) = true then [] else [32, 38, 32]) ++ ((if brk 2 k5 = true then 40 :: (LX ++ [41]) else LX) ++ showK bytesL 2 false (ks.drop (i + 1)))) = L0 from by
            rw [← HI.out, hcons, showK, ← hkd, hLX, List.append_assoc]; rfl)
          have e0 := hb_cell hbw (hcj 0 _ rfl)
          have e1 := hb_cell hbw (hcj 1 _ rfl)
          have e2 := hb_cell hbw (hcj 2 _ rfl)
          have e3 := hb_cell hbw (hcj 3 _ rfl)
          rw [Nat.add_zero] at e0
          have c0 := cell_at (blkT HB2.out.2 HB.out) 0
          have c3 := cell_at (blkT HB2.out.2 HB.out) 3
          simp only [List.getElem?_toArray, List.getElem?_cons_zero, List.getElem?_cons_succ] at c0 c3
          have hsw : w.heap.size < wr.heap.size := lt_of_heap (blkT HB2.out.2 HB.out)
          have hltj : (i : Int) < (m : Int) := by omega
          have hi1 : IntKind.i64.wrap ((i : Int) + 1) = (i : Int) + 1 := IntWalk.i64_in _ (by omega)
          clear hx hrj hcj hrd hbw hcons hkd hNX hLX hwx HI
          by_cases hi0 : i = 0
          · subst hi0
            rw [Nat.zero_mul, Nat.add_zero] at e0 e1 e2 e3
            by_cases h3 : k5 = 3
            · subst h3
              have HI4 := Lib.hid (HI2.out true)
              have hbk : brk 2 3 = true := by decide
              have HI5 := Lib.hid (show bytesL str ++ ((40 :: (LX ++ [41])) ++ showK bytesL 2 false (ks.drop 1)) = L0 from by rw [← HI3.out, hbk]; rfl)
              clear HI3 HI2 hbk
              go_wp2_with fail
              refine (HI4.out _ below_oneM).mono ?_
              rintro e wy ⟨pc, rfl, hc, hs, hb⟩
              obtain ⟨str4, hadd4, hY2, hY3⟩ := add_text (P := Tryz.prog) str pc (by omega)
              have HZ := Lib.hid (low_more HB.out (low_more below_oneM hb))
              have HC4 := Lib.hid (show (bytesL str4 ++ showK bytesL 2 false (ks.drop 1) = L0) ∨ (1000 < str4.size ∧ 1000 < L0.length) from by
                have hc' : Cut pc (40 :: (LX ++ [41])) := by simpa using hc
                rcases hc' with h | ⟨h1, h2⟩
                · exact .inl (by rw [← HI5.out, ← h, hY2, bytesL_append, List.append_assoc])
                · refine .inr ⟨by omega, ?_⟩
                  rw [← HI5.out, List.length_append, List.length_append]
                  omega)
              have hsz4 : str4.size ≤ 6000 * W0 := by omega
              clear hc hb hY2 hY3 c0 c3 e0 e1 e2 e3 HI4 HI5
              by_cases hbig : (1000 : Int) < (str4.size : Int)
              · have HCf := Lib.hid (show Cut str4 L0 from by
                  rcases HC4.out with h | h
                  · exact Cut.big h (by omega)
                  · exact .inr h)
                go_wp2_with fail
                go_meet
                exact ⟨str4, rfl, hsz4, HCf, HZ⟩
              · have hsm : str4.size ≤ 1000 := by omega
                have HCf := Lib.hid (HC4.out.resolve_right (fun h => by omega))
                go_wp2_with fail
                go_roundg g
                case measure => omega
                case rel => exact ⟨1, str4, by omega, by go_num, rfl, hsm, Lib.hid (by rw [decide_eq_false (by omega : ¬ 1 = 0)]; exact HCf.out), HZ⟩
            have x3 : (k5 == 3) = false := beq_eq_false_iff_ne.2 h3
            by_cases h2 : k5 = 2
            · subst h2
              have HI4 := Lib.hid (HI2.out true)
              have hbk : brk 2 2 = true := by decide
              have HI5 := Lib.hid (show bytesL str ++ ((40 :: (LX ++ [41])) ++ showK bytesL 2 false (ks.drop 1)) = L0 from by rw [← HI3.out, hbk]; rfl)
              clear HI3 HI2 hbk
              go_wp2_with fail
              refine (HI4.out _ below_oneM).mono ?_
              rintro e wy ⟨pc, rfl, hc, hs, hb⟩
              obtain ⟨str4, hadd4, hY2, hY3⟩ := add_text (P := Tryz.prog) str pc (by omega)
              have HZ := Lib.hid (low_more HB.out (low_more below_oneM hb))
              have HC4 := Lib.hid (show (bytesL str4 ++ showK bytesL 2 false (ks.drop 1) = L0) ∨ (1000 < str4.size ∧ 1000 < L0.length) from by
                have hc' : Cut pc (40 :: (LX ++ [41])) := by simpa using hc
                rcases hc' with h | ⟨h1, h2⟩
                · exact .inl (by rw [← HI5.out, ← h, hY2, bytesL_append, List.append_assoc])
                · refine .inr ⟨by omega, ?_⟩
                  rw [← HI5.out, List.length_append, List.length_append]
                  omega)
              have hsz4 : str4.size ≤ 6000 * W0 := by omega
              clear hc hb hY2 hY3 c0 c3 e0 e1 e2 e3 HI4 HI5
              by_cases hbig : (1000 : Int) < (str4.size : Int)
              · have HCf := Lib.hid (show Cut str4 L0 from by
                  rcases HC4.out with h | h
                  · exact Cut.big h (by omega)
                  · exact .inr h)
                go_wp2_with fail
                go_meet
                exact ⟨str4, rfl, hsz4, HCf, HZ⟩
              · have hsm : str4.size ≤ 1000 := by omega
                have HCf := Lib.hid (HC4.out.resolve_right (fun h => by omega))
                go_wp2_with fail
                go_roundg g
                case measure => omega
                case rel => exact ⟨1, str4, by omega, by go_num, rfl, hsm, Lib.hid (by rw [decide_eq_false (by omega : ¬ 1 = 0)]; exact HCf.out), HZ⟩
            have x2 : (k5 == 2) = false := beq_eq_false_iff_ne.2 h2
            have HI4 := Lib.hid (HI2.out false)
            have hbk : brk 2 k5 = false := by unfold brk; rw [x3, x2]; rfl
            have HI5 := Lib.hid (show bytesL str ++ (LX ++ showK bytesL 2 false (ks.drop 1)) = L0 from by rw [← HI3.out, hbk]; rfl)
            clear HI3 HI2 hbk
            go_wp2_with fail
            refine (HI4.out _ below_oneM).mono ?_
            rintro e wy ⟨pc, rfl, hc, hs, hb⟩
            obtain ⟨str4, hadd4, hY2, hY3⟩ := add_text (P := Tryz.prog) str pc (by omega)
            have HZ := Lib.hid (low_more HB.out (low_more below_oneM hb))
            have HC4 := Lib.hid (show (bytesL str4 ++ showK bytesL 2 false (ks.drop 1) = L0) ∨ (1000 < str4.size ∧ 1000 < L0.length) from by
              have hc' : Cut pc LX := by simpa using hc
              rcases hc' with h | ⟨h1, h2⟩
              · exact .inl (by rw [← HI5.out, ← h, hY2, bytesL_append, List.append_assoc])
              · refine .inr ⟨by omega, ?_⟩
                rw [← HI5.out, List.length_append, List.length_append]
                omega)
            have hsz4 : str4.size ≤ 6000 * W0 := by omega
            clear hc hb hY2 hY3 c0 c3 e0 e1 e2 e3 HI4 HI5
            by_cases hbig : (1000 : Int) < (str4.size : Int)
            · have HCf := Lib.hid (show Cut str4 L0 from by
                rcases HC4.out with h | h
                · exact Cut.big h (by omega)
                · exact .inr h)
              go_wp2_with fail
              go_meet
              exact ⟨str4, rfl, hsz4, HCf, HZ⟩
            · have hsm : str4.size ≤ 1000 := by omega
              have HCf := Lib.hid (HC4.out.resolve_right (fun h => by omega))
              go_wp2_with fail
              go_roundg g
              case measure => omega
              case rel => exact ⟨1, str4, by omega, by go_num, rfl, hsm, Lib.hid (by rw [decide_eq_false (by omega : ¬ 1 = 0)]; exact HCf.out), HZ⟩
          · have hi2 : 0 < i := by omega
            have hi3 : (0 : Int) < (i : Int) := by omega
            by_cases h3 : k5 = 3
            · subst h3
              have HI4 := Lib.hid (HI2.out true)
              have hbk : brk 2 3 = true := by decide
              obtain ⟨str2, hadd, hX2, hX3⟩ := add_text (P := Tryz.prog) str ⟨#[32, 38, 32]⟩ (by rw [show (⟨#[32, 38, 32]⟩ : ByteArray).size = 3 from rfl]; omega)
              rw [show (⟨#[32, 38, 32]⟩ : ByteArray).size = 3 from rfl] at hX3
              have HI5 := Lib.hid (show bytesL str2 ++ ((40 :: (LX ++ [41])) ++ showK bytesL 2 false (ks.drop (i + 1))) = L0 from by rw [← HI3.out, if_neg (by simpa using hi0), hbk, hX2, bytesL_append, List.append_assoc]; rfl)
              have hsz2 : str2.size ≤ 1003 := by omega
              clear hX2 hX3
              clear HI3 HI2 hbk
              go_wp2_with fail
              refine (HI4.out _ below_oneM).mono ?_
              rintro e wy ⟨pc, rfl, hc, hs, hb⟩
              obtain ⟨str4, hadd4, hY2, hY3⟩ := add_text (P := Tryz.prog) str2 pc (by omega)
              have HZ := Lib.hid (low_more HB.out (low_more below_oneM hb))
              have HC4 := Lib.hid (show (bytesL str4 ++ showK bytesL 2 false (ks.drop (i + 1)) = L0) ∨ (1000 < str4.size ∧ 1000 < L0.length) from by
                have hc' : Cut pc (40 :: (LX ++ [41])) := by simpa using hc
                rcases hc' with h | ⟨h1, h2⟩
                · exact .inl (by rw [← HI5.out, ← h, hY2, bytesL_append, List.append_assoc])
                · refine .inr ⟨by omega, ?_⟩
                  rw [← HI5.out, List.length_append, List.length_append]
                  omega)
              have hsz4 : str4.size ≤ 6000 * W0 := by omega
              clear hc hb hY2 hY3 c0 c3 e0 e1 e2 e3 HI4 HI5
              by_cases hbig : (1000 : Int) < (str4.size : Int)
              · have HCf := Lib.hid (show Cut str4 L0 from by
                  rcases HC4.out with h | h
                  · exact Cut.big h (by omega)
                  · exact .inr h)
                go_wp2_with fail
                go_meet
                exact ⟨str4, rfl, hsz4, HCf, HZ⟩
              · have hsm : str4.size ≤ 1000 := by omega
                have HCf := Lib.hid (HC4.out.resolve_right (fun h => by omega))
                go_wp2_with fail
                go_roundg g
                case measure => omega
                case rel => exact ⟨i + 1, str4, by omega, by go_num, rfl, hsm, Lib.hid (by rw [decide_eq_false (by omega : ¬ i + 1 = 0)]; exact HCf.out), HZ⟩
            have x3 : (k5 == 3) = false := beq_eq_false_iff_ne.2 h3
            by_cases h2 : k5 = 2
            · subst h2
              have HI4 := Lib.hid (HI2.out true)
              have hbk : brk 2 2 = true := by decide
              obtain ⟨str2, hadd, hX2, hX3⟩ := add_text (P := Tryz.prog) str ⟨#[32, 38, 32]⟩ (by rw [show (⟨#[32, 38, 32]⟩ : ByteArray).size = 3 from rfl]; omega)
              rw [show (⟨#[32, 38, 32]⟩ : ByteArray).size = 3 from rfl] at hX3
              have HI5 := Lib.hid (show bytesL str2 ++ ((40 :: (LX ++ [41])) ++ showK bytesL 2 false (ks.drop (i + 1))) = L0 from by rw [← HI3.out, if_neg (by simpa using hi0), hbk, hX2, bytesL_append, List.append_assoc]; rfl)
              have hsz2 : str2.size ≤ 1003 := by omega
              clear hX2 hX3
              clear HI3 HI2 hbk
              go_wp2_with fail
              refine (HI4.out _ below_oneM).mono ?_
              rintro e wy ⟨pc, rfl, hc, hs, hb⟩
              obtain ⟨str4, hadd4, hY2, hY3⟩ := add_text (P := Tryz.prog) str2 pc (by omega)
              have HZ := Lib.hid (low_more HB.out (low_more below_oneM hb))
              have HC4 := Lib.hid (show (bytesL str4 ++ showK bytesL 2 false (ks.drop (i + 1)) = L0) ∨ (1000 < str4.size ∧ 1000 < L0.length) from by
                have hc' : Cut pc (40 :: (LX ++ [41])) := by simpa using hc
                rcases hc' with h | ⟨h1, h2⟩
                · exact .inl (by rw [← HI5.out, ← h, hY2, bytesL_append, List.append_assoc])
                · refine .inr ⟨by omega, ?_⟩
                  rw [← HI5.out, List.length_append, List.length_append]
                  omega)
              have hsz4 : str4.size ≤ 6000 * W0 := by omega
              clear hc hb hY2 hY3 c0 c3 e0 e1 e2 e3 HI4 HI5
              by_cases hbig : (1000 : Int) < (str4.size : Int)
              · have HCf := Lib.hid (show Cut str4 L0 from by
                  rcases HC4.out with h | h
                  · exact Cut.big h (by omega)
                  · exact .inr h)
                go_wp2_with fail
                go_meet
                exact ⟨str4, rfl, hsz4, HCf, HZ⟩
              · have hsm : str4.size ≤ 1000 := by omega
                have HCf := Lib.hid (HC4.out.resolve_right (fun h => by omega))
                go_wp2_with fail
                go_roundg g
                case measure => omega
                case rel => exact ⟨i + 1, str4, by omega, by go_num, rfl, hsm, Lib.hid (by rw [decide_eq_false (by omega : ¬ i + 1 = 0)]; exact HCf.out), HZ⟩
            have x2 : (k5 == 2) = false := beq_eq_false_iff_ne.2 h2
            have HI4 := Lib.hid (HI2.out false)
            have hbk : brk 2 k5 = false := by unfold brk; rw [x3, x2]; rfl
            obtain ⟨str2, hadd, hX2, hX3⟩ := add_text (P := Tryz.prog) str ⟨#[32, 38, 32]⟩ (by rw [show (⟨#[32, 38, 32]⟩ : ByteArray).size = 3 from rfl]; omega)
            rw [show (⟨#[32, 38, 32]⟩ : ByteArray).size = 3 from rfl] at hX3
            have HI5 := Lib.hid (show bytesL str2 ++ (LX ++ showK bytesL 2 false (ks.drop (i + 1))) = L0 from by rw [← HI3.out, if_neg (by simpa using hi0), hbk, hX2, bytesL_append, List.append_assoc]; rfl)
            have hsz2 : str2.size ≤ 1003 := by omega
            clear hX2 hX3
            clear HI3 HI2 hbk
            go_wp2_with fail
            refine (HI4.out _ below_oneM).mono ?_
            rintro e wy ⟨pc, rfl, hc, hs, hb⟩
            obtain ⟨str4, hadd4, hY2, hY3⟩ := add_text (P := Tryz.prog) str2 pc (by omega)
            have HZ := Lib.hid (low_more HB.out (low_more below_oneM hb))
            have HC4 := Lib.hid (show (bytesL str4 ++ showK bytesL 2 false (ks.drop (i + 1)) = L0) ∨ (1000 < str4.size ∧ 1000 < L0.length) from by
              have hc' : Cut pc LX := by simpa using hc
              rcases hc' with h | ⟨h1, h2⟩
              · exact .inl (by rw [← HI5.out, ← h, hY2, bytesL_append, List.append_assoc])
              · refine .inr ⟨by omega, ?_⟩
                rw [← HI5.out, List.length_append, List.length_append]
                omega)
            have hsz4 : str4.size ≤ 6000 * W0 := by omega
            clear hc hb hY2 hY3 c0 c3 e0 e1 e2 e3 HI4 HI5
            by_cases hbig : (1000 : Int) < (str4.size : Int)
            · have HCf := Lib.hid (show Cut str4 L0 from by
                rcases HC4.out with h | h
                · exact Cut.big h (by omega)
                · exact .inr h)
              go_wp2_with fail
              go_meet
              exact ⟨str4, rfl, hsz4, HCf, HZ⟩
            · have hsm : str4.size ≤ 1000 := by omega
              have HCf := Lib.hid (HC4.out.resolve_right (fun h => by omega))
              go_wp2_with fail
              go_roundg g
              case measure => omega
              case rel => exact ⟨i + 1, str4, by omega, by go_num, rfl, hsm, Lib.hid (by rw [decide_eq_false (by omega : ¬ i + 1 = 0)]; exact HCf.out), HZ⟩
  · clear HLf
    have HLs := Lib.hid (show L0 = showK bytesL 3 true ks from by rw [HL0.out, showB_more (by decide) (by decide)])
    clear HL0 HMay
    go_upto_block 1 with fail
    go_cut [3] (fun s3 wx => ∃ str : ByteArray, s3 = .string str ∧ str.size ≤ 6000 * W0 ∧ Hid (Cut str L0) ∧ Hid (Below w2.heap.size w2 wx))
    case rest =>
      obtain ⟨str, rfl, hs, HC, HB⟩ := hcut
      go_wp2_with fail
      go_ret
      exact ⟨str, rfl, HC.out, hs, low_more HB2.out.1 HB.out⟩
    case first =>
      go_wp2_with fail
      clear c0 c1 c2 c3
      go_loopg [3, 37] m (fun g s3 s37 wr => ∃ (i : Nat) (str : ByteArray), i + g = m ∧ s37 = .int .i64 (i : Int) ∧ s3 = .string str ∧ str.size ≤ 1000 ∧ Hid (bytesL str ++ showK bytesL 3 (decide (i = 0)) (ks.drop i) = L0) ∧ Hid (Below w2.heap.size w2 wr))
      case atStart => exact ⟨0, ⟨#[]⟩, by omega, rfl, rfl, by decide, Lib.hid (by rw [HLs.out]; rfl), Lib.hid (Below.refl _ _)⟩
      case round =>
        obtain ⟨i, str, hig, rfl, rfl, hs1, HI, HB⟩ := hrel
        cases gk with
        | zero =>
          have hi : m = i := by omega
          have HC := Lib.hid (show Cut str L0 from Cut.whole HI.out (by rw [List.drop_eq_nil_of_le (by have := HN.out; omega), showK]))
          subst hi
          go_wp2_with fail
          go_meet
          exact ⟨str, rfl, by omega, HC, HB⟩
        | succ g =>
          have hlt : i < m := by omega
          obtain ⟨x, hx⟩ : ∃ x, ks[i]? = some x := ⟨_, List.getElem?_eq_getElem (by rw [← HN.out]; exact hlt)⟩
          obtain ⟨rj, hrj⟩ : ∃ rj, rs[i]? = some rj := ⟨_, List.getElem?_eq_getElem (by rw [HK.out.2.1, ← HN.out]; exact hlt)⟩
          obtain ⟨gj, oj, rfl, hcj⟩ := HK.out.1 i rj hrj
          have hrd := HK.out.2.2 i x rj hx hrj
          have hkd := hrd.parts.1
          have hwx := HWk.out x (List.mem_of_getElem? hx)
          have hbw := low_more HB2.out.1 HB.out
          obtain ⟨NX, hNX⟩ : ∃ NX, NX = 6000 * wtN x + 2 := ⟨_, rfl⟩
          have hNX2 : NX + 1010 ≤ 6000 * W0 := by omega
          have HI2 := Lib.hid (fun (b : Bool) wx (hbx : Below wr.heap.size wr wx) => HIh.out (by decide) i x rj hx hrj wx (low_more hbw hbx) b)
          rw [← hNX] at HI2
          have hcons : ks.drop i = x :: ks.drop (i + 1) := by
            obtain ⟨_, he⟩ := List.getElem?_eq_some_iff.1 hx
            rw [← he]
            exact List.drop_eq_getElem_cons (by rw [← HN.out]; exact hlt)
          obtain ⟨LX, hLX⟩ : ∃ LX, LX = showB x := ⟨_, rfl⟩
          obtain ⟨k5, f5, tv5, kv5⟩ := rj
          obtain ⟨ta5, tn5, tc5, ka5, kn5, kc5, rfl, rfl⟩ := hrd.slices
          rw [show rnV (k5, f5, .slice ta5 tn5 tc5, .slice ka5 kn5 kc5) = .agg #[.int .i64 k5, .int .u8 f5, .slice ta5 tn5 tc5, .slice ka5 kn5 kc5] from rfl, ← hLX] at HI2
          simp only at hkd
          have HI3 := Lib.hid (show bytesL str ++ ((if decide (i = 0) = true then [] else [32, 124, 32]) ++ ((if brk 3 k5 = true then 40 :: (LX ++ [41]) else LX) ++ showK bytesL 3 false (ks.drop (i + 1)))) = L0 from by
            rw [← HI.out, hcons, showK, ← hkd, hLX, List.append_assoc]; rfl)
          have e0 := hb_cell hbw (hcj 0 _ rfl)
          have e1 := hb_cell hbw (hcj 1 _ rfl)
          have e2 := hb_cell hbw (hcj 2 _ rfl)
          have e3 := hb_cell hbw (hcj 3 _ rfl)
          rw [Nat.add_zero] at e0
          have c0 := cell_at (blkT HB2.out.2 HB.out) 0
          have c3 := cell_at (blkT HB2.out.2 HB.out) 3
          simp only [List.getElem?_toArray, List.getElem?_cons_zero, List.getElem?_cons_succ] at c0 c3
          have hsw : w.heap.size < wr.heap.size := lt_of_heap (blkT HB2.out.2 HB.out)
          have hltj : (i : Int) < (m : Int) := by omega
          have hi1 : IntKind.i64.wrap ((i : Int) + 1) = (i : Int) + 1 := IntWalk.i64_in _ (by omega)
          clear hx hrj hcj hrd hbw hcons hkd hNX hLX hwx HI
          by_cases hi0 : i = 0
          · subst hi0
            rw [Nat.zero_mul, Nat.add_zero] at e0 e1 e2 e3
            by_cases h3 : k5 = 3
            · subst h3
              have HI4 := Lib.hid (HI2.out true)
              have hbk : brk 3 3 = true := by decide
              have HI5 := Lib.hid (show bytesL str ++ ((40 :: (LX ++ [41])) ++ showK bytesL 3 false (ks.drop 1)) = L0 from by rw [← HI3.out, hbk]; rfl)
              clear HI3 HI2 hbk
              go_wp2_with fail
              refine (HI4.out _ below_oneM).mono ?_
              rintro e wy ⟨pc, rfl, hc, hs, hb⟩
              obtain ⟨str4, hadd4, hY2, hY3⟩ := add_text (P := Tryz.prog) str pc (by omega)
              have HZ := Lib.hid (low_more HB.out (low_more below_oneM hb))
              have HC4 := Lib.hid (show (bytesL str4 ++ showK bytesL 3 false (ks.drop 1) = L0) ∨ (1000 < str4.size ∧ 1000 < L0.length) from by
                have hc' : Cut pc (40 :: (LX ++ [41])) := by simpa using hc
                rcases hc' with h | ⟨h1, h2⟩
                · exact .inl (by rw [← HI5.out, ← h, hY2, bytesL_append, List.append_assoc])
                · refine .inr ⟨by omega, ?_⟩
                  rw [← HI5.out, List.length_append, List.length_append]
                  omega)
              have hsz4 : str4.size ≤ 6000 * W0 := by omega
              clear hc hb hY2 hY3 c0 c3 e0 e1 e2 e3 HI4 HI5
              by_cases hbig : (1000 : Int) < (str4.size : Int)
              · have HCf := Lib.hid (show Cut str4 L0 from by
                  rcases HC4.out with h | h
                  · exact Cut.big h (by omega)
                  · exact .inr h)
                go_wp2_with fail
                go_meet
                exact ⟨str4, rfl, hsz4, HCf, HZ⟩
              · have hsm : str4.size ≤ 1000 := by omega
                have HCf := Lib.hid (HC4.out.resolve_right (fun h => by omega))
                go_wp2_with fail
                go_roundg g
                case measure => omega
                case rel => exact ⟨1, str4, by omega, by go_num, rfl, hsm, Lib.hid (by rw [decide_eq_false (by omega : ¬ 1 = 0)]; exact HCf.out), HZ⟩
            have x3 : (k5 == 3) = false := beq_eq_false_iff_ne.2 h3
            by_cases h2 : k5 = 2
            · subst h2
              have HI4 := Lib.hid (HI2.out false)
              have hbk : brk 3 2 = false := by decide
              have HI5 := Lib.hid (show bytesL str ++ (LX ++ showK bytesL 3 false (ks.drop 1)) = L0 from by rw [← HI3.out, hbk]; rfl)
              clear HI3 HI2 hbk
              go_wp2_with fail
              refine (HI4.out _ below_oneM).mono ?_
              rintro e wy ⟨pc, rfl, hc, hs, hb⟩
              obtain ⟨str4, hadd4, hY2, hY3⟩ := add_text (P := Tryz.prog) str pc (by omega)
              have HZ := Lib.hid (low_more HB.out (low_more below_oneM hb))
              have HC4 := Lib.hid (show (bytesL str4 ++ showK bytesL 3 false (ks.drop 1) = L0) ∨ (1000 < str4.size ∧ 1000 < L0.length) from by
                have hc' : Cut pc LX := by simpa using hc
                rcases hc' with h | ⟨h1, h2⟩
                · exact .inl (by rw [← HI5.out, ← h, hY2, bytesL_append, List.append_assoc])
                · refine .inr ⟨by omega, ?_⟩
                  rw [← HI5.out, List.length_append, List.length_append]
                  omega)
              have hsz4 : str4.size ≤ 6000 * W0 := by omega
              clear hc hb hY2 hY3 c0 c3 e0 e1 e2 e3 HI4 HI5
              by_cases hbig : (1000 : Int) < (str4.size : Int)
              · have HCf := Lib.hid (show Cut str4 L0 from by
                  rcases HC4.out with h | h
                  · exact Cut.big h (by omega)
                  · exact .inr h)
                go_wp2_with fail
                go_meet
                exact ⟨str4, rfl, hsz4, HCf, HZ⟩
              · have hsm : str4.size ≤ 1000 := by omega
                have HCf := Lib.hid (HC4.out.resolve_right (fun h => by omega))
                go_wp2_with fail
                go_roundg g
                case measure => omega
                case rel => exact ⟨1, str4, by omega, by go_num, rfl, hsm, Lib.hid (by rw [decide_eq_false (by omega : ¬ 1 = 0)]; exact HCf.out), HZ⟩
            have x2 : (k5 == 2) = false := beq_eq_false_iff_ne.2 h2
            have HI4 := Lib.hid (HI2.out false)
            have hbk : brk 3 k5 = false := by unfold brk; rw [x3, x2]; rfl
            have HI5 := Lib.hid (show bytesL str ++ (LX ++ showK bytesL 3 false (ks.drop 1)) = L0 from by rw [← HI3.out, hbk]; rfl)
            clear HI3 HI2 hbk
            go_wp2_with fail
            refine (HI4.out _ below_oneM).mono ?_
            rintro e wy ⟨pc, rfl, hc, hs, hb⟩
            obtain ⟨str4, hadd4, hY2, hY3⟩ := add_text (P := Tryz.prog) str pc (by omega)
            have HZ := Lib.hid (low_more HB.out (low_more below_oneM hb))
            have HC4 := Lib.hid (show (bytesL str4 ++ showK bytesL 3 false (ks.drop 1) = L0) ∨ (1000 < str4.size ∧ 1000 < L0.length) from by
              have hc' : Cut pc LX := by simpa using hc
              rcases hc' with h | ⟨h1, h2⟩
              · exact .inl (by rw [← HI5.out, ← h, hY2, bytesL_append, List.append_assoc])
              · refine .inr ⟨by omega, ?_⟩
                rw [← HI5.out, List.length_append, List.length_append]
                omega)
            have hsz4 : str4.size ≤ 6000 * W0 := by omega
            clear hc hb hY2 hY3 c0 c3 e0 e1 e2 e3 HI4 HI5
            by_cases hbig : (1000 : Int) < (str4.size : Int)
            · have HCf := Lib.hid (show Cut str4 L0 from by
                rcases HC4.out with h | h
                · exact Cut.big h (by omega)
                · exact .inr h)
              go_wp2_with fail
              go_meet
              exact ⟨str4, rfl, hsz4, HCf, HZ⟩
            · have hsm : str4.size ≤ 1000 := by omega
              have HCf := Lib.hid (HC4.out.resolve_right (fun h => by omega))
              go_wp2_with fail
              go_roundg g
              case measure => omega
              case rel => exact ⟨1, str4, by omega, by go_num, rfl, hsm, Lib.hid (by rw [decide_eq_false (by omega : ¬ 1 = 0)]; exact HCf.out), HZ⟩
          · have hi2 : 0 < i := by omega
            have hi3 : (0 : Int) < (i : Int) := by omega
            by_cases h3 : k5 = 3
            · subst h3
              have HI4 := Lib.hid (HI2.out true)
              have hbk : brk 3 3 = true := by decide
              obtain ⟨str2, hadd, hX2, hX3⟩ := add_text (P := Tryz.prog) str ⟨#[32, 124, 32]⟩ (by rw [show (⟨#[32, 124, 32]⟩ : ByteArray).size = 3 from rfl]; omega)
              rw [show (⟨#[32, 124, 32]⟩ : ByteArray).size = 3 from rfl] at hX3
              have HI5 := Lib.hid (show bytesL str2 ++ ((40 :: (LX ++ [41])) ++ showK bytesL 3 false (ks.drop (i + 1))) = L0 from by rw [← HI3.out, if_neg (by simpa using hi0), hbk, hX2, bytesL_append, List.append_assoc]; rfl)
              have hsz2 : str2.size ≤ 1003 := by omega
              clear hX2 hX3
              clear HI3 HI2 hbk
              go_wp2_with fail
              refine (HI4.out _ below_oneM).mono ?_
              rintro e wy ⟨pc, rfl, hc, hs, hb⟩
              obtain ⟨str4, hadd4, hY2, hY3⟩ := add_text (P := Tryz.prog) str2 pc (by omega)
              have HZ := Lib.hid (low_more HB.out (low_more below_oneM hb))
              have HC4 := Lib.hid (show (bytesL str4 ++ showK bytesL 3 false (ks.drop (i + 1)) = L0) ∨ (1000 < str4.size ∧ 1000 < L0.length) from by
                have hc' : Cut pc (40 :: (LX ++ [41])) := by simpa using hc
                rcases hc' with h | ⟨h1, h2⟩
                · exact .inl (by rw [← HI5.out, ← h, hY2, bytesL_append, List.append_assoc])
                · refine .inr ⟨by omega, ?_⟩
                  rw [← HI5.out, List.length_append, List.length_append]
                  omega)
              have hsz4 : str4.size ≤ 6000 * W0 := by omega
              clear hc hb hY2 hY3 c0 c3 e0 e1 e2 e3 HI4 HI5
              by_cases hbig : (1000 : Int) < (str4.size : Int)
              · have HCf := Lib.hid (show Cut str4 L0 from by
                  rcases HC4.out with h | h
                  · exact Cut.big h (by omega)
                  · exact .inr h)
                go_wp2_with fail
                go_meet
                exact ⟨str4, rfl, hsz4, HCf, HZ⟩
              · have hsm : str4.size ≤ 1000 := by omega
                have HCf := Lib.hid (HC4.out.resolve_right (fun h => by omega))
                go_wp2_with fail
                go_roundg g
                case measure => omega
                case rel => exact ⟨i + 1, str4, by omega, by go_num, rfl, hsm, Lib.hid (by rw [decide_eq_false (by omega : ¬ i + 1 = 0)]; exact HCf.out), HZ⟩
            have x3 : (k5 == 3) = false := beq_eq_false_iff_ne.2 h3
            by_cases h2 : k5 = 2
            · subst h2
              have HI4 := Lib.hid (HI2.out false)
              have hbk : brk 3 2 = false := by decide
              obtain ⟨str2, hadd, hX2, hX3⟩ := add_text (P := Tryz.prog) str ⟨#[32, 124, 32]⟩ (by rw [show (⟨#[32, 124, 32]⟩ : ByteArray).size = 3 from rfl]; omega)
              rw [show (⟨#[32, 124, 32]⟩ : ByteArray).size = 3 from rfl] at hX3
              have HI5 := Lib.hid (show bytesL str2 ++ (LX ++ showK bytesL 3 false (ks.drop (i + 1))) = L0 from by rw [← HI3.out, if_neg (by simpa using hi0), hbk, hX2, bytesL_append, List.append_assoc]; rfl)
              have hsz2 : str2.size ≤ 1003 := by omega
              clear hX2 hX3
              clear HI3 HI2 hbk
              go_wp2_with fail
              refine (HI4.out _ below_oneM).mono ?_
              rintro e wy ⟨pc, rfl, hc, hs, hb⟩
              obtain ⟨str4, hadd4, hY2, hY3⟩ := add_text (P := Tryz.prog) str2 pc (by omega)
              have HZ := Lib.hid (low_more HB.out (low_more below_oneM hb))
              have HC4 := Lib.hid (show (bytesL str4 ++ showK bytesL 3 false (ks.drop (i + 1)) = L0) ∨ (1000 < str4.size ∧ 1000 < L0.length) from by
                have hc' : Cut pc LX := by simpa using hc
                rcases hc' with h | ⟨h1, h2⟩
                · exact .inl (by rw [← HI5.out, ← h, hY2, bytesL_append, List.append_assoc])
                · refine .inr ⟨by omega, ?_⟩
                  rw [← HI5.out, List.length_append, List.length_append]
                  omega)
              have hsz4 : str4.size ≤ 6000 * W0 := by omega
              clear hc hb hY2 hY3 c0 c3 e0 e1 e2 e3 HI4 HI5
              by_cases hbig : (1000 : Int) < (str4.size : Int)
              · have HCf := Lib.hid (show Cut str4 L0 from by
                  rcases HC4.out with h | h
                  · exact Cut.big h (by omega)
                  · exact .inr h)
                go_wp2_with fail
                go_meet
                exact ⟨str4, rfl, hsz4, HCf, HZ⟩
              · have hsm : str4.size ≤ 1000 := by omega
                have HCf := Lib.hid (HC4.out.resolve_right (fun h => by omega))
                go_wp2_with fail
                go_roundg g
                case measure => omega
                case rel => exact ⟨i + 1, str4, by omega, by go_num, rfl, hsm, Lib.hid (by rw [decide_eq_false (by omega : ¬ i + 1 = 0)]; exact HCf.out), HZ⟩
            have x2 : (k5 == 2) = false := beq_eq_false_iff_ne.2 h2
            have HI4 := Lib.hid (HI2.out false)
            have hbk : brk 3 k5 = false := by unfold brk; rw [x3, x2]; rfl
            obtain ⟨str2, hadd, hX2, hX3⟩ := add_text (P := Tryz.prog) str ⟨#[32, 124, 32]⟩ (by rw [show (⟨#[32, 124, 32]⟩ : ByteArray).size = 3 from rfl]; omega)
            rw [show (⟨#[32, 124, 32]⟩ : ByteArray).size = 3 from rfl] at hX3
            have HI5 := Lib.hid (show bytesL str2 ++ (LX ++ showK bytesL 3 false (ks.drop (i + 1))) = L0 from by rw [← HI3.out, if_neg (by simpa using hi0), hbk, hX2, bytesL_append, List.append_assoc]; rfl)
            have hsz2 : str2.size ≤ 1003 := by omega
            clear hX2 hX3
            clear HI3 HI2 hbk
            go_wp2_with fail
            refine (HI4.out _ below_oneM).mono ?_
            rintro e wy ⟨pc, rfl, hc, hs, hb⟩
            obtain ⟨str4, hadd4, hY2, hY3⟩ := add_text (P := Tryz.prog) str2 pc (by omega)
            have HZ := Lib.hid (low_more HB.out (low_more below_oneM hb))
            have HC4 := Lib.hid (show (bytesL str4 ++ showK bytesL 3 false (ks.drop (i + 1)) = L0) ∨ (1000 < str4.size ∧ 1000 < L0.length) from by
              have hc' : Cut pc LX := by simpa using hc
              rcases hc' with h | ⟨h1, h2⟩
              · exact .inl (by rw [← HI5.out, ← h, hY2, bytesL_append, List.append_assoc])
              · refine .inr ⟨by omega, ?_⟩
                rw [← HI5.out, List.length_append, List.length_append]
                omega)
            have hsz4 : str4.size ≤ 6000 * W0 := by omega
            clear hc hb hY2 hY3 c0 c3 e0 e1 e2 e3 HI4 HI5
            by_cases hbig : (1000 : Int) < (str4.size : Int)
            · have HCf := Lib.hid (show Cut str4 L0 from by
                rcases HC4.out with h | h
                · exact Cut.big h (by omega)
                · exact .inr h)
              go_wp2_with fail
              go_meet
              exact ⟨str4, rfl, hsz4, HCf, HZ⟩
            · have hsm : str4.size ≤ 1000 := by omega
              have HCf := Lib.hid (HC4.out.resolve_right (fun h => by omega))
              go_wp2_with fail
              go_roundg g
              case measure => omega
              case rel => exact ⟨i + 1, str4, by omega, by go_num, rfl, hsm, Lib.hid (by rw [decide_eq_false (by omega : ¬ i + 1 = 0)]; exact HCf.out), HZ⟩
  · clear HLf
    obtain ⟨x, rfl⟩ : ∃ x, ks = [x] := by
      obtain ⟨x, h, _⟩ := may_not HMay.out
      exact ⟨x, h⟩
    obtain rfl : m = 1 := HN.out
    obtain ⟨rj, hrj⟩ : ∃ rj, rs[0]? = some rj := ⟨_, List.getElem?_eq_getElem (by rw [HK.out.2.1]; simp)⟩
    obtain ⟨gj, oj, rfl, hcj⟩ := HK.out.1 0 rj hrj
    have hrd := HK.out.2.2 0 x rj rfl hrj
    have hkd := hrd.parts.1
    have hwx := HWk.out x (by simp)
    obtain ⟨NX, hNX⟩ : ∃ NX, NX = 6000 * wtN x + 2 := ⟨_, rfl⟩
    have hNX2 : NX + 1 ≤ 6000 * W0 := by omega
    have HI2 := Lib.hid (fun (b : Bool) wx hbx => HIh.out (by decide) 0 x rj rfl hrj wx hbx b)
    rw [← hNX] at HI2
    have HLs := Lib.hid (show L0 = 33 :: (if brk 4 x.kind = true then 40 :: (showB x ++ [41]) else showB x) from by rw [HL0.out, showB_not])
    obtain ⟨k5, f5, tv5, kv5⟩ := rj
    simp only at hkd
    rw [← hkd] at HLs
    obtain ⟨LX, hLX⟩ : ∃ LX, LX = showB x := ⟨_, rfl⟩
    rw [← hLX] at HLs HI2
    have HCa := Lib.hid (fun wx (hb : Below w2.heap.size w2 wx) (j : Nat) v (hv : (rnC (k5, f5, tv5, kv5)).toArray.toList[j]? = some v) => (show wx.cell? ⟨gj, oj + j, none⟩ = some v from by have := below_cell (hcj j v hv) (low_more HB2.out.1 hb); simpa using this))
    have HCb := Lib.hid (fun wx (hb : Below w2.heap.size w2 wx) => hb_cell hb c3)
    clear hrj hcj hrd hkd hNX hLX hwx HWk HIh HK HMay HL0
    go_upto_region 5 with fail
    clear c0 c1 c2 c3
    by_cases h2 : k5 = 2
    case pos =>
      subst h2
      refine wp_region_cl (fun (p : ByteArray) jz => [(.pointer (some ⟨w.heap.size, 3, none⟩)), (.slice (some ⟨gj, oj, none⟩) 1 kc), (.pointer (some ⟨gj, oj, none⟩)), (.agg (rnC (2, f5, tv5, kv5)).toArray), (.pointer (some ⟨w.heap.size, 3, none⟩)), (.slice (some ⟨gj, oj, none⟩) 1 kc), (.pointer (some ⟨gj, oj, none⟩)), (.pointer (some ⟨gj, oj, none⟩)), (.int .i64 2), (.bool true), (.bool true), undef, undef, undef, undef, undef, undef, (.bool true), (.string p), (.string (⟨#[33]⟩ ++ p)), (.string (⟨#[33]⟩ ++ p))].getD jz undef)
        (fun p l wx => Below w2.heap.size w2 wx ∧ (l 18 = true → Cut p (40 :: (LX ++ [41])) ∧ p.size ≤ NX))
        (by kernel_rfl) (by kernel_rfl) (fun q => by simp only [putTo, dstOf, Act.put, List.size_toArray, List.length_cons, List.length_nil, List.getElem?_toArray, Nat.reduceAdd, Option.bind_some, List.getElem?_cons_zero, List.getElem?_cons_succ, List.setIfInBounds_toArray, List.set_cons_zero, List.set_cons_succ, List.getD_cons_zero, List.getD_cons_succ]; exact rfl) ⟨#[]⟩ ?_ ?_ ?_
      · exact ⟨(Below.refl _ _).drew, fun h => by cases h⟩
      · intro i o ho p l wx hR hl he hcl K hK
        rcases i with _ | _ | _ | _ | _ | _ | _ | _ | _ | _ | _ | _ | _ | _ | _ | _ | _ | _ | _ | _ | _ | i
        · obtain rfl : _ = o := Option.some.inj ho
          have HR := Lib.hid hR
          clear hR
          go_simp
          exact hK p wx (fun _ _ => rfl) ⟨HR.out.1, fun h => HR.out.2 h⟩
        · obtain rfl : _ = o := Option.some.inj ho
          have HR := Lib.hid hR
          clear hR
          have q := HCb.out wx HR.out.1
          go_simp
          exact hK p wx (fun _ _ => rfl) ⟨HR.out.1, fun h => HR.out.2 h⟩
        · obtain rfl : _ = o := Option.some.inj ho
          have HR := Lib.hid hR
          clear hR
          go_simp
          exact hK p wx (fun _ _ => rfl) ⟨HR.out.1, fun h => HR.out.2 h⟩
        · obtain rfl : _ = o := Option.some.inj ho
          have HR := Lib.hid hR
          clear hR
          exact wp_load_cells 25 (.tmp 16) rfl gj oj rfl (rnC (2, f5, tv5, kv5)).toArray _ (HCa.out wx HR.out.1) Tryz.underlying25 rfl (node_info (2, f5, tv5, kv5)) (hK p wx (fun _ _ => rfl) ⟨HR.out.1, fun h => HR.out.2 h⟩)
        · obtain rfl : _ = o := Option.some.inj ho
          have HR := Lib.hid hR
          clear hR
          go_simp
          exact hK p wx (fun _ _ => rfl) ⟨HR.out.1, fun h => HR.out.2 h⟩
        · obtain rfl : _ = o := Option.some.inj ho
          have HR := Lib.hid hR
          clear hR
          have q := HCb.out wx HR.out.1
          go_simp
          exact hK p wx (fun _ _ => rfl) ⟨HR.out.1, fun h => HR.out.2 h⟩
        · obtain rfl : _ = o := Option.some.inj ho
          have HR := Lib.hid hR
          clear hR
          go_simp
          exact hK p wx (fun _ _ => rfl) ⟨HR.out.1, fun h => HR.out.2 h⟩
        · obtain rfl : _ = o := Option.some.inj ho
          have HR := Lib.hid hR
          clear hR
          go_simp
          exact hK p wx (fun _ _ => rfl) ⟨HR.out.1, fun h => HR.out.2 h⟩
        · obtain rfl : _ = o := Option.some.inj ho
          have HR := Lib.hid hR
          clear hR
          have q := HCa.out wx HR.out.1 0 (.int .i64 2) rfl
          rw [Nat.add_zero] at q
          go_simp
          exact hK p wx (fun _ _ => rfl) ⟨HR.out.1, fun h => HR.out.2 h⟩
        · obtain rfl : _ = o := Option.some.inj ho
          have HR := Lib.hid hR
          clear hR
          go_simp
          exact hK p wx (fun _ _ => rfl) ⟨HR.out.1, fun h => HR.out.2 h⟩
        · obtain rfl : _ = o := Option.some.inj ho
          have HR := Lib.hid hR
          clear hR
          go_simp
          exact hK p wx (fun _ _ => rfl) ⟨HR.out.1, fun h => HR.out.2 h⟩
        · obtain rfl : _ = o := Option.some.inj ho
          have HR := Lib.hid hR
          clear hR
          go_simp
          exact hK p wx (fun _ _ => rfl) ⟨HR.out.1, fun h => HR.out.2 h⟩
        · obtain rfl : _ = o := Option.some.inj ho
          have HR := Lib.hid hR
          clear hR
          go_simp
          exact hK p wx (fun _ _ => rfl) ⟨HR.out.1, fun h => HR.out.2 h⟩
        · obtain rfl : _ = o := Option.some.inj ho
          have HR := Lib.hid hR
          clear hR
          go_simp
          exact hK p wx (fun _ _ => rfl) ⟨HR.out.1, fun h => HR.out.2 h⟩
        · obtain rfl : _ = o := Option.some.inj ho
          have HR := Lib.hid hR
          clear hR
          go_simp
          exact hK p wx (fun _ _ => rfl) ⟨HR.out.1, fun h => HR.out.2 h⟩
        · obtain rfl : _ = o := Option.some.inj ho
          have HR := Lib.hid hR
          clear hR
          go_simp
          exact hK p wx (fun _ _ => rfl) ⟨HR.out.1, fun h => HR.out.2 h⟩
        · obtain rfl : _ = o := Option.some.inj ho
          have HR := Lib.hid hR
          clear hR
          go_simp
          exact hK p wx (fun _ _ => rfl) ⟨HR.out.1, fun h => HR.out.2 h⟩
        · obtain rfl : _ = o := Option.some.inj ho
          have HR := Lib.hid hR
          clear hR
          go_simp
          exact hK p wx (fun _ _ => rfl) ⟨HR.out.1, fun h => HR.out.2 h⟩
        · obtain rfl : _ = o := Option.some.inj ho
          have HR := Lib.hid hR
          clear hR
          have HI3 := Lib.hid (HI2.out true wx (low_more HB2.out.1 HR.out.1))
          rw [show rnV (2, f5, tv5, kv5) = .agg (rnC (2, f5, tv5, kv5)).toArray from rfl] at HI3
          go_simp
          refine HI3.out.mono ?_
          rintro e wy ⟨s, rfl, hc, hs, hb⟩
          refine hK s wy (fun j hj => ?_) ⟨low_more HR.out.1 hb, fun _ => ⟨by first | exact hc | (simp only [if_true] at hc; exact hc) | simpa using hc, hs⟩⟩
          rcases j with _ | _ | _ | _ | _ | _ | _ | _ | _ | _ | _ | _ | _ | _ | _ | _ | _ | _ | _ | _ | _ | j
          all_goals first | rfl | (rw [hl] at hj; cases hj) | (exact absurd (hcl 19 _ rfl hj ⟨18, .data⟩ (by simp) rfl) (by rw [hl]; decide)) | (exact absurd (hcl 19 _ rfl (hcl 20 _ rfl hj ⟨19, .data⟩ (by simp) rfl) ⟨18, .data⟩ (by simp) rfl) (by rw [hl]; decide))
        · obtain rfl : _ = o := Option.some.inj ho
          have HR := Lib.hid hR
          clear hR
          have hz := HR.out.2 (he ⟨18, .data⟩ (by simp) rfl)
          have hadd := run_string_add_sum (P := Tryz.prog) wx ⟨#[33]⟩ p (by rw [show (⟨#[33]⟩ : ByteArray).size = 1 from rfl]; omega)
          go_simp
          exact hK p wx (fun _ _ => rfl) ⟨HR.out.1, fun h => HR.out.2 h⟩
        · obtain rfl : _ = o := Option.some.inj ho
          have HR := Lib.hid hR
          clear hR
          go_simp
          exact hK p wx (fun _ _ => rfl) ⟨HR.out.1, fun h => HR.out.2 h⟩
        · simp at ho
      · intro p l wx hl hR
        have HR := Lib.hid (And.intro hR.1 (hR.2 (hl 18 (by decide))))
        clear hR hl
        go_wp2_with fail
        go_ret
        refine ⟨_, rfl, ?_, ?_, low_more HB2.out.1 HR.out.1⟩
        · rw [HLs.out, if_pos (show brk 4 2 = true from by decide)]
          exact Cut.add (L := [33]) (.inl rfl) HR.out.2.1
        · rw [ByteArray.size_append, show (⟨#[33]⟩ : ByteArray).size = 1 from rfl]
          have := HR.out.2.2
          omega
    case neg =>
    have e2 : (k5 == 2) = false := beq_eq_false_iff_ne.2 h2
    by_cases h3 : k5 = 3
    case pos =>
      subst h3
      refine wp_region_cl (fun (p : ByteArray) jz => [(.pointer (some ⟨w.heap.size, 3, none⟩)), (.slice (some ⟨gj, oj, none⟩) 1 kc), (.pointer (some ⟨gj, oj, none⟩)), (.agg (rnC (3, f5, tv5, kv5)).toArray), (.pointer (some ⟨w.heap.size, 3, none⟩)), (.slice (some ⟨gj, oj, none⟩) 1 kc), (.pointer (some ⟨gj, oj, none⟩)), (.pointer (some ⟨gj, oj, none⟩)), (.int .i64 3), (.bool false), (.bool false), (.pointer (some ⟨w.heap.size, 3, none⟩)), (.slice (some ⟨gj, oj, none⟩) 1 kc), (.pointer (some ⟨gj, oj, none⟩)), (.pointer (some ⟨gj, oj, none⟩)), (.int .i64 3), (.bool true), (.bool true), (.string p), (.string (⟨#[33]⟩ ++ p)), (.string (⟨#[33]⟩ ++ p))].getD jz undef)
        (fun p l wx => Below w2.heap.size w2 wx ∧ (l 18 = true → Cut p (40 :: (LX ++ [41])) ∧ p.size ≤ NX))
        (by kernel_rfl) (by kernel_rfl) (fun q => by simp only [putTo, dstOf, Act.put, List.size_toArray, List.length_cons, List.length_nil, List.getElem?_toArray, Nat.reduceAdd, Option.bind_some, List.getElem?_cons_zero, List.getElem?_cons_succ, List.setIfInBounds_toArray, List.set_cons_zero, List.set_cons_succ, List.getD_cons_zero, List.getD_cons_succ]; exact rfl) ⟨#[]⟩ ?_ ?_ ?_
      · exact ⟨(Below.refl _ _).drew, fun h => by cases h⟩
      · intro i o ho p l wx hR hl he hcl K hK
        rcases i with _ | _ | _ | _ | _ | _ | _ | _ | _ | _ | _ | _ | _ | _ | _ | _ | _ | _ | _ | _ | _ | i
        · obtain rfl : _ = o := Option.some.inj ho
          have HR := Lib.hid hR
          clear hR
          go_simp
          exact hK p wx (fun _ _ => rfl) ⟨HR.out.1, fun h => HR.out.2 h⟩
        · obtain rfl : _ = o := Option.some.inj ho
          have HR := Lib.hid hR
          clear hR
          have q := HCb.out wx HR.out.1
          go_simp
          exact hK p wx (fun _ _ => rfl) ⟨HR.out.1, fun h => HR.out.2 h⟩
        · obtain rfl : _ = o := Option.some.inj ho
          have HR := Lib.hid hR
          clear hR
          go_simp
          exact hK p wx (fun _ _ => rfl) ⟨HR.out.1, fun h => HR.out.2 h⟩
        · obtain rfl : _ = o := Option.some.inj ho
          have HR := Lib.hid hR
          clear hR
          exact wp_load_cells 25 (.tmp 16) rfl gj oj rfl (rnC (3, f5, tv5, kv5)).toArray _ (HCa.out wx HR.out.1) Tryz.underlying25 rfl (node_info (3, f5, tv5, kv5)) (hK p wx (fun _ _ => rfl) ⟨HR.out.1, fun h => HR.out.2 h⟩)
        · obtain rfl : _ = o := Option.some.inj ho
          have HR := Lib.hid hR
          clear hR
          go_simp
          exact hK p wx (fun _ _ => rfl) ⟨HR.out.1, fun h => HR.out.2 h⟩
        · obtain rfl : _ = o := Option.some.inj ho
          have HR := Lib.hid hR
          clear hR
          have q := HCb.out wx HR.out.1
          go_simp
          exact hK p wx (fun _ _ => rfl) ⟨HR.out.1, fun h => HR.out.2 h⟩
        · obtain rfl : _ = o := Option.some.inj ho
          have HR := Lib.hid hR
          clear hR
          go_simp
          exact hK p wx (fun _ _ => rfl) ⟨HR.out.1, fun h => HR.out.2 h⟩
        · obtain rfl : _ = o := Option.some.inj ho
          have HR := Lib.hid hR
          clear hR
          go_simp
          exact hK p wx (fun _ _ => rfl) ⟨HR.out.1, fun h => HR.out.2 h⟩
        · obtain rfl : _ = o := Option.some.inj ho
          have HR := Lib.hid hR
          clear hR
          have q := HCa.out wx HR.out.1 0 (.int .i64 3) rfl
          rw [Nat.add_zero] at q
          go_simp
          exact hK p wx (fun _ _ => rfl) ⟨HR.out.1, fun h => HR.out.2 h⟩
        · obtain rfl : _ = o := Option.some.inj ho
          have HR := Lib.hid hR
          clear hR
          go_simp
          exact hK p wx (fun _ _ => rfl) ⟨HR.out.1, fun h => HR.out.2 h⟩
        · obtain rfl : _ = o := Option.some.inj ho
          have HR := Lib.hid hR
          clear hR
          go_simp
          exact hK p wx (fun _ _ => rfl) ⟨HR.out.1, fun h => HR.out.2 h⟩
        · obtain rfl : _ = o := Option.some.inj ho
          have HR := Lib.hid hR
          clear hR
          go_simp
          exact hK p wx (fun _ _ => rfl) ⟨HR.out.1, fun h => HR.out.2 h⟩
        · obtain rfl : _ = o := Option.some.inj ho
          have HR := Lib.hid hR
          clear hR
          have q := HCb.out wx HR.out.1
          go_simp
          exact hK p wx (fun _ _ => rfl) ⟨HR.out.1, fun h => HR.out.2 h⟩
        · obtain rfl : _ = o := Option.some.inj ho
          have HR := Lib.hid hR
          clear hR
          go_simp
          exact hK p wx (fun _ _ => rfl) ⟨HR.out.1, fun h => HR.out.2 h⟩
        · obtain rfl : _ = o := Option.some.inj ho
          have HR := Lib.hid hR
          clear hR
          go_simp
          exact hK p wx (fun _ _ => rfl) ⟨HR.out.1, fun h => HR.out.2 h⟩
        · obtain rfl : _ = o := Option.some.inj ho
          have HR := Lib.hid hR
          clear hR
          have q := HCa.out wx HR.out.1 0 (.int .i64 3) rfl
          rw [Nat.add_zero] at q
          go_simp
          exact hK p wx (fun _ _ => rfl) ⟨HR.out.1, fun h => HR.out.2 h⟩
        · obtain rfl : _ = o := Option.some.inj ho
          have HR := Lib.hid hR
          clear hR
          go_simp
          exact hK p wx (fun _ _ => rfl) ⟨HR.out.1, fun h => HR.out.2 h⟩
        · obtain rfl : _ = o := Option.some.inj ho
          have HR := Lib.hid hR
          clear hR
          go_simp
          exact hK p wx (fun _ _ => rfl) ⟨HR.out.1, fun h => HR.out.2 h⟩
        · obtain rfl : _ = o := Option.some.inj ho
          have HR := Lib.hid hR
          clear hR
          have HI3 := Lib.hid (HI2.out true wx (low_more HB2.out.1 HR.out.1))
          rw [show rnV (3, f5, tv5, kv5) = .agg (rnC (3, f5, tv5, kv5)).toArray from rfl] at HI3
          go_simp
          refine HI3.out.mono ?_
          rintro e wy ⟨s, rfl, hc, hs, hb⟩
          refine hK s wy (fun j hj => ?_) ⟨low_more HR.out.1 hb, fun _ => ⟨by first | exact hc | (simp only [if_true] at hc; exact hc) | simpa using hc, hs⟩⟩
          rcases j with _ | _ | _ | _ | _ | _ | _ | _ | _ | _ | _ | _ | _ | _ | _ | _ | _ | _ | _ | _ | _ | j
          all_goals first | rfl | (rw [hl] at hj; cases hj) | (exact absurd (hcl 19 _ rfl hj ⟨18, .data⟩ (by simp) rfl) (by rw [hl]; decide)) | (exact absurd (hcl 19 _ rfl (hcl 20 _ rfl hj ⟨19, .data⟩ (by simp) rfl) ⟨18, .data⟩ (by simp) rfl) (by rw [hl]; decide))
        · obtain rfl : _ = o := Option.some.inj ho
          have HR := Lib.hid hR
          clear hR
          have hz := HR.out.2 (he ⟨18, .data⟩ (by simp) rfl)
          have hadd := run_string_add_sum (P := Tryz.prog) wx ⟨#[33]⟩ p (by rw [show (⟨#[33]⟩ : ByteArray).size = 1 from rfl]; omega)
          go_simp
          exact hK p wx (fun _ _ => rfl) ⟨HR.out.1, fun h => HR.out.2 h⟩
        · obtain rfl : _ = o := Option.some.inj ho
          have HR := Lib.hid hR
          clear hR
          go_simp
          exact hK p wx (fun _ _ => rfl) ⟨HR.out.1, fun h => HR.out.2 h⟩
        · simp at ho
      · intro p l wx hl hR
        have HR := Lib.hid (And.intro hR.1 (hR.2 (hl 18 (by decide))))
        clear hR hl
        go_wp2_with fail
        go_ret
        refine ⟨_, rfl, ?_, ?_, low_more HB2.out.1 HR.out.1⟩
        · rw [HLs.out, if_pos (show brk 4 3 = true from by decide)]
          exact Cut.add (L := [33]) (.inl rfl) HR.out.2.1
        · rw [ByteArray.size_append, show (⟨#[33]⟩ : ByteArray).size = 1 from rfl]
          have := HR.out.2.2
          omega
    case neg =>
    have e3 : (k5 == 3) = false := beq_eq_false_iff_ne.2 h3
    refine wp_region_cl (fun (p : ByteArray) jz => [(.pointer (some ⟨w.heap.size, 3, none⟩)), (.slice (some ⟨gj, oj, none⟩) 1 kc), (.pointer (some ⟨gj, oj, none⟩)), (.agg (rnC (k5, f5, tv5, kv5)).toArray), (.pointer (some ⟨w.heap.size, 3, none⟩)), (.slice (some ⟨gj, oj, none⟩) 1 kc), (.pointer (some ⟨gj, oj, none⟩)), (.pointer (some ⟨gj, oj, none⟩)), (.int .i64 k5), (.bool false), (.bool false), (.pointer (some ⟨w.heap.size, 3, none⟩)), (.slice (some ⟨gj, oj, none⟩) 1 kc), (.pointer (some ⟨gj, oj, none⟩)), (.pointer (some ⟨gj, oj, none⟩)), (.int .i64 k5), (.bool false), (.bool false), (.string p), (.string (⟨#[33]⟩ ++ p)), (.string (⟨#[33]⟩ ++ p))].getD jz undef)
      (fun p l wx => Below w2.heap.size w2 wx ∧ (l 18 = true → Cut p (LX) ∧ p.size ≤ NX))
      (by kernel_rfl) (by kernel_rfl) (fun q => by simp only [putTo, dstOf, Act.put, List.size_toArray, List.length_cons, List.length_nil, List.getElem?_toArray, Nat.reduceAdd, Option.bind_some, List.getElem?_cons_zero, List.getElem?_cons_succ, List.setIfInBounds_toArray, List.set_cons_zero, List.set_cons_succ, List.getD_cons_zero, List.getD_cons_succ]; exact rfl) ⟨#[]⟩ ?_ ?_ ?_
    · exact ⟨(Below.refl _ _).drew, fun h => by cases h⟩
    · intro i o ho p l wx hR hl he hcl K hK
      rcases i with _ | _ | _ | _ | _ | _ | _ | _ | _ | _ | _ | _ | _ | _ | _ | _ | _ | _ | _ | _ | _ | i
      · obtain rfl : _ = o := Option.some.inj ho
        have HR := Lib.hid hR
        clear hR
        go_simp
        exact hK p wx (fun _ _ => rfl) ⟨HR.out.1, fun h => HR.out.2 h⟩
      · obtain rfl : _ = o := Option.some.inj ho
        have HR := Lib.hid hR
        clear hR
        have q := HCb.out wx HR.out.1
        go_simp
        exact hK p wx (fun _ _ => rfl) ⟨HR.out.1, fun h => HR.out.2 h⟩
      · obtain rfl : _ = o := Option.some.inj ho
        have HR := Lib.hid hR
        clear hR
        go_simp
        exact hK p wx (fun _ _ => rfl) ⟨HR.out.1, fun h => HR.out.2 h⟩
      · obtain rfl : _ = o := Option.some.inj ho
        have HR := Lib.hid hR
        clear hR
        exact wp_load_cells 25 (.tmp 16) rfl gj oj rfl (rnC (k5, f5, tv5, kv5)).toArray _ (HCa.out wx HR.out.1) Tryz.underlying25 rfl (node_info (k5, f5, tv5, kv5)) (hK p wx (fun _ _ => rfl) ⟨HR.out.1, fun h => HR.out.2 h⟩)
      · obtain rfl : _ = o := Option.some.inj ho
        have HR := Lib.hid hR
        clear hR
        go_simp
        exact hK p wx (fun _ _ => rfl) ⟨HR.out.1, fun h => HR.out.2 h⟩
      · obtain rfl : _ = o := Option.some.inj ho
        have HR := Lib.hid hR
        clear hR
        have q := HCb.out wx HR.out.1
        go_simp
        exact hK p wx (fun _ _ => rfl) ⟨HR.out.1, fun h => HR.out.2 h⟩
      · obtain rfl : _ = o := Option.some.inj ho
        have HR := Lib.hid hR
        clear hR
        go_simp
        exact hK p wx (fun _ _ => rfl) ⟨HR.out.1, fun h => HR.out.2 h⟩
      · obtain rfl : _ = o := Option.some.inj ho
        have HR := Lib.hid hR
        clear hR
        go_simp
        exact hK p wx (fun _ _ => rfl) ⟨HR.out.1, fun h => HR.out.2 h⟩
      · obtain rfl : _ = o := Option.some.inj ho
        have HR := Lib.hid hR
        clear hR
        have q := HCa.out wx HR.out.1 0 (.int .i64 k5) rfl
        rw [Nat.add_zero] at q
        go_simp
        exact hK p wx (fun _ _ => rfl) ⟨HR.out.1, fun h => HR.out.2 h⟩
      · obtain rfl : _ = o := Option.some.inj ho
        have HR := Lib.hid hR
        clear hR
        go_simp
        exact hK p wx (fun _ _ => rfl) ⟨HR.out.1, fun h => HR.out.2 h⟩
      · obtain rfl : _ = o := Option.some.inj ho
        have HR := Lib.hid hR
        clear hR
        go_simp
        exact hK p wx (fun _ _ => rfl) ⟨HR.out.1, fun h => HR.out.2 h⟩
      · obtain rfl : _ = o := Option.some.inj ho
        have HR := Lib.hid hR
        clear hR
        go_simp
        exact hK p wx (fun _ _ => rfl) ⟨HR.out.1, fun h => HR.out.2 h⟩
      · obtain rfl : _ = o := Option.some.inj ho
        have HR := Lib.hid hR
        clear hR
        have q := HCb.out wx HR.out.1
        go_simp
        exact hK p wx (fun _ _ => rfl) ⟨HR.out.1, fun h => HR.out.2 h⟩
      · obtain rfl : _ = o := Option.some.inj ho
        have HR := Lib.hid hR
        clear hR
        go_simp
        exact hK p wx (fun _ _ => rfl) ⟨HR.out.1, fun h => HR.out.2 h⟩
      · obtain rfl : _ = o := Option.some.inj ho
        have HR := Lib.hid hR
        clear hR
        go_simp
        exact hK p wx (fun _ _ => rfl) ⟨HR.out.1, fun h => HR.out.2 h⟩
      · obtain rfl : _ = o := Option.some.inj ho
        have HR := Lib.hid hR
        clear hR
        have q := HCa.out wx HR.out.1 0 (.int .i64 k5) rfl
        rw [Nat.add_zero] at q
        go_simp
        exact hK p wx (fun _ _ => rfl) ⟨HR.out.1, fun h => HR.out.2 h⟩
      · obtain rfl : _ = o := Option.some.inj ho
        have HR := Lib.hid hR
        clear hR
        go_simp
        exact hK p wx (fun _ _ => rfl) ⟨HR.out.1, fun h => HR.out.2 h⟩
      · obtain rfl : _ = o := Option.some.inj ho
        have HR := Lib.hid hR
        clear hR
        go_simp
        exact hK p wx (fun _ _ => rfl) ⟨HR.out.1, fun h => HR.out.2 h⟩
      · obtain rfl : _ = o := Option.some.inj ho
        have HR := Lib.hid hR
        clear hR
        have HI3 := Lib.hid (HI2.out false wx (low_more HB2.out.1 HR.out.1))
        rw [show rnV (k5, f5, tv5, kv5) = .agg (rnC (k5, f5, tv5, kv5)).toArray from rfl] at HI3
        go_simp
        refine HI3.out.mono ?_
        rintro e wy ⟨s, rfl, hc, hs, hb⟩
        refine hK s wy (fun j hj => ?_) ⟨low_more HR.out.1 hb, fun _ => ⟨by first | exact hc | (simp only [if_true] at hc; exact hc) | simpa using hc, hs⟩⟩
        rcases j with _ | _ | _ | _ | _ | _ | _ | _ | _ | _ | _ | _ | _ | _ | _ | _ | _ | _ | _ | _ | _ | j
        all_goals first | rfl | (rw [hl] at hj; cases hj) | (exact absurd (hcl 19 _ rfl hj ⟨18, .data⟩ (by simp) rfl) (by rw [hl]; decide)) | (exact absurd (hcl 19 _ rfl (hcl 20 _ rfl hj ⟨19, .data⟩ (by simp) rfl) ⟨18, .data⟩ (by simp) rfl) (by rw [hl]; decide))
      · obtain rfl : _ = o := Option.some.inj ho
        have HR := Lib.hid hR
        clear hR
        have hz := HR.out.2 (he ⟨18, .data⟩ (by simp) rfl)
        have hadd := run_string_add_sum (P := Tryz.prog) wx ⟨#[33]⟩ p (by rw [show (⟨#[33]⟩ : ByteArray).size = 1 from rfl]; omega)
        go_simp
        exact hK p wx (fun _ _ => rfl) ⟨HR.out.1, fun h => HR.out.2 h⟩
      · obtain rfl : _ = o := Option.some.inj ho
        have HR := Lib.hid hR
        clear hR
        go_simp
        exact hK p wx (fun _ _ => rfl) ⟨HR.out.1, fun h => HR.out.2 h⟩
      · simp at ho
    · intro p l wx hl hR
      have HR := Lib.hid (And.intro hR.1 (hR.2 (hl 18 (by decide))))
      clear hR hl
      go_wp2_with fail
      go_ret
      refine ⟨_, rfl, ?_, ?_, low_more HB2.out.1 HR.out.1⟩
      · rw [HLs.out, if_neg (show ¬ brk 4 k5 = true from by unfold brk; rw [e3, e2]; decide)]
        exact Cut.add (L := [33]) (.inl rfl) HR.out.2.1
      · rw [ByteArray.size_append, show (⟨#[33]⟩ : ByteArray).size = 1 from rfl]
        have := HR.out.2.2
        omega
end Go.Proofs.YthkpaelpnofbgaaGreatDoor
