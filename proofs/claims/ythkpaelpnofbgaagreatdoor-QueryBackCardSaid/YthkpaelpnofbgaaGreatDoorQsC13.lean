/-
  The reference of layer 17: which leaves may be. Over the program's own text.
-/
import Derived.Test.YthkpaelpnofbgaaGreatDoorQsC12
import Derived.Test.YthkpaelpnofbgaaGreatDoorQsC04
import Derived.Test.YthkpaelpnofbgaaGreatDoorQsC05

namespace Go.Proofs.YthkpaelpnofbgaaGreatDoor
open Go.RowKit

set_option maxRecDepth 100000 in
/-- The reference's words of a text: whether it is its only word. -/
theorem ref_one (w : World) (s : ByteArray) (hs : s.size ≤ 1000000) : Calls Tryz.prog 45 #[.string s] w fun e w' => ∃ oa n c, e = .returned (.slice oa n c) ∧ n ≤ 1000001 ∧ Below w.heap.size w w' ∧
    ((n ≠ 1 ∧ termOk s = false) ∨ (n = 1 ∧ ∃ g o y, oa = some ⟨g, o, none⟩ ∧ w'.cell? ⟨g, o + 1, none⟩ = some (.string y) ∧ (y.toList == s.toList) = termOk s)) := by
  refine (ref_words w s hs).mono ?_
  rintro e w' ⟨v, rfl, hv, hb⟩
  obtain ⟨oa, c, rfl, _, _, hr⟩ := toks_reads hv
  refine ⟨oa, _, c, rfl, ?_, hb, ?_⟩
  · rw [toksP_length]
    have := places_len (allT s) 0
    have := allT_le s
    show (placesF 0 (allT s)).length ≤ _
    omega
  · have hbt : ∀ x ∈ wordsT s, byteText x.1 = s ↔ x.1 = bytesL s := fun x hx => by
      have ht := (places_term _ _ _ (show x ∈ placesF 0 (allT s) from hx)).1
      have hl := term_lt (allT_term s _ ht)
      exact ⟨fun h => by rw [← h, bytesL_byteText _ hl], fun h => by rw [h, byteText_bytesL]⟩
    unfold termOk
    generalize wordsT s = L at *
    rcases L with _ | ⟨x, _ | ⟨y, l⟩⟩
    · exact .inl ⟨by rw [show (toksP 0 []).length = 0 from rfl]; decide, rfl⟩
    · refine .inr ⟨rfl, ?_⟩
      obtain ⟨g, o, h0, _, h1, _⟩ := hr 0 _ rfl
      refine ⟨g, o, byteText x.1, h0, ?_, ?_⟩
      · simpa using h1
      · simp only
        rw [Bool.eq_iff_iff, beq_iff_eq, beq_iff_eq, ← hbt x (by simp)]
        constructor
        · intro e
          rw [ByteArray.toList_eq, ByteArray.toList_eq] at e
          exact ByteArray.ext (Array.toList_inj.1 e)
        · intro e; rw [e]
    · exact .inl ⟨by rw [toksP_length]; simp, rfl⟩

set_option maxRecDepth 100000 in
set_option maxHeartbeats 8000000 in
theorem ref_mayLeaf (w : World) (S : Nat → Prop) (k f : Int) (ts : List Tk) (ks : List Nd) (r : Rn) (h : RdN w S (.mk k f ts ks) r) (hn3 : ts.length ≤ 1000000) (hsz : ∀ t ∈ ts, t.2.1.size ≤ 1000000) (hkn : ks.length ≤ 1000000) :
    Calls Tryz.prog 36 #[rnV r] w fun e w' => e = .returned (.bool (okL f ts ks)) ∧ Below w.heap.size w w' := by
  cases h with
  | @mk _ _ _ _ ta ka tc kc rs hf0 hf1 ht htl htm htb hk hkl hkm hkb hl hr =>
  obtain ⟨m, hm⟩ : ∃ m, m = ks.length := ⟨_, rfl⟩
  obtain ⟨n, hn⟩ : ∃ n, n = ts.length := ⟨_, rfl⟩
  have HN := Lib.hid hn
  have HK := Lib.hid (And.intro ht hsz)
  obtain ⟨res, hres⟩ : ∃ b, b = okL f ts ks := ⟨_, rfl⟩
  rw [← hres]
  have hres2 : res = (decide (m = 0) && decide (f < 4) && restB f 0 (-1) ts) := by
    rw [hres]
    unfold okL restB
    rw [if_pos rfl, hm, show ks.isEmpty = decide (ks.length = 0) by cases ks <;> simp]
    simp [hf0]
  rw [← hm] at hkn
  rw [← hn] at hn3
  rw [← hm, ← hn, show rnV (k, f, .slice ta n tc, .slice ka m kc) = .agg #[.int .i64 k, .int .u8 f, .slice ta n tc, .slice ka m kc] from rfl]
  obtain ⟨X, hX⟩ : ∃ X : Obj, X = .cells #[.int .i64 k, .int .u8 f, .slice ta n tc, .slice ka m kc] 25 := ⟨_, rfl⟩
  have hx1 : (w.alloc X).heap[w.heap.size]? = some (.cells #[.int .i64 k, .int .u8 f, .slice ta n tc, .slice ka m kc] 25 (0, 0)) := by rw [heap_alloc_new w X, hX]
  have HB1 := Lib.hid (And.intro (below_one (w := w) (A := X)) hx1)
  have c1 := cell_at hx1 1
  have c2 := cell_at hx1 2
  have c3 := cell_at hx1 3
  simp only [List.getElem?_toArray, List.getElem?_cons_zero, List.getElem?_cons_succ] at c1 c2 c3
  clear hm hn ht htl htm htb hk hkl hkm hkb hl hr hsz hx1 hres
  go_enter Tryz.func36, Tryz.ntmps36
  go_upto_region 1 with fail
  rw [← hX]
  clear hX
  generalize w.alloc X = w1 at HB1 c1 c2 c3 ⊢
  by_cases hf4 : 3 < f
  · have hr2 : res = false := by rw [hres2, decide_eq_false (by omega : ¬ f < 4)]; simp
    subst hr2
    clear hres2
    go_wp2_with fail
    go_ret
    exact ⟨rfl, HB1.out.1⟩
  by_cases hm0 : 0 < m
  · have hm1 : (0 : Int) < (m : Int) := by omega
    have hr2 : res = false := by rw [hres2, decide_eq_false (by omega)]; rfl
    subst hr2
    clear hres2
    go_wp2_with fail
    go_ret
    exact ⟨rfl, HB1.out.1⟩
  have hm2 : m = 0 := by omega
  subst hm2
  have hres3 : res = restB f 0 (-1) ts := by rw [hres2, decide_eq_true (by omega : f < 4)]; simp
  have HRes := Lib.hid hres3
  clear hres2 hres3
  go_wp2_with fail
  clear c1 c2 c3
  go_loopg [18] n (fun g s18 wr => ∃ (i : Nat) (last : Int), i + g = n ∧ s18 = .int .i64 (i : Int) ∧ Hid (res = restB f i last (ts.drop i) ∧ (i = 0 → last = -1) ∧ -1 ≤ last ∧ (∀ t, 0 < i → ts[i - 1]? = some t → last = t.2.2)) ∧ Hid (Below w1.heap.size w1 wr))
  case atStart => exact ⟨0, -1, by omega, rfl, Lib.hid ⟨HRes.out, fun _ => rfl, by omega, fun _ h => by omega⟩, Lib.hid (Below.refl _ _)⟩
  case round =>
    obtain ⟨i, last, hig, rfl, HI, HB⟩ := hrel
    cases gk with
    | zero =>
      have hi : n = i := by omega
      have hr2 : res = true := by
        rw [HI.out.1, List.drop_eq_nil_of_le (by have := HN.out; omega), restB_nil]
      subst hr2
      subst hi
      go_wp2_with fail
      go_ret
      exact ⟨rfl, low_more HB1.out.1 HB.out⟩
    | succ g =>
      have hlt : i < n := by omega
      obtain ⟨⟨tf, tt, tp⟩, htt⟩ : ∃ t, ts[i]? = some t := ⟨_, List.getElem?_eq_getElem (by rw [← HN.out]; exact hlt)⟩
      obtain ⟨gt, ot, rfl, k0, k1, k2⟩ := HK.out.1 i _ htt
      simp only at k0 k1 k2
      have hsz := HK.out.2 _ (List.mem_of_getElem? htt)
      simp only at hsz
      have hbw := low_more HB1.out.1 HB.out
      have d0 := hb_cell hbw k0
      have d1 := hb_cell hbw k1
      have d2 := hb_cell hbw k2
      have hcons : ts.drop i = (tf, tt, tp) :: ts.drop (i + 1) := by
        obtain ⟨_, he⟩ := List.getElem?_eq_some_iff.1 htt
        rw [← he]
        exact List.drop_eq_getElem_cons (by rw [← HN.out]; exact hlt)
      have hr2 : res = (!(decide (i = 0) && tp != 0) && !decide (tp ≤ last) && !decide (256 < tp) && !(tf != f) && termOk tt && restB f (i + 1) tp (ts.drop (i + 1))) := by
        rw [HI.out.1, hcons, restB_cons f i last _ _ HI.out.2.1]
      have HR2 := Lib.hid hr2
      have HPrev := Lib.hid (show 0 < i → ∀ wx, Below w.heap.size w wx → wx.cell? ⟨gt, ot + (i - 1) * 3 + 2, none⟩ = some (.int .i64 last) from fun hi0 wx hbx => by
        obtain ⟨t', ht'⟩ : ∃ t, ts[i - 1]? = some t := ⟨_, List.getElem?_eq_getElem (by rw [← HN.out]; omega)⟩
        obtain ⟨g', o', he, _, _, h3⟩ := HK.out.1 (i - 1) t' ht'
        injection he with he
        injection he with he1 he2
        subst he1 he2
        rw [HI.out.2.2.2 t' hi0 ht']
        exact hb_cell hbx h3)
      have HNext := Lib.hid (show ∀ t, 0 < i + 1 → ts[i + 1 - 1]? = some t → tp = t.2.2 from fun t _ h => by
        rw [Nat.add_sub_cancel, htt] at h
        injection h with h
        rw [← h])
      have HLast := Lib.hid HI.out.2.2.1
      have HL0 := Lib.hid HI.out.2.1
      have q1 := cell_at (blkT HB1.out.2 HB.out) 1
      have q2 := cell_at (blkT HB1.out.2 HB.out) 2
      simp only [List.getElem?_toArray, List.getElem?_cons_zero, List.getElem?_cons_succ] at q1 q2
      have hsw : w.heap.size < wr.heap.size := lt_of_heap (blkT HB1.out.2 HB.out)
      have hlti : (i : Int) < (n : Int) := by omega
      have hi1 : IntKind.i64.wrap ((i : Int) + 1) = (i : Int) + 1 := IntWalk.i64_in _ (by omega)
      have HT2 := Lib.hid (fun wx => ref_one wx tt hsz)
      have HBw := Lib.hid hbw
      have HTok := Lib.hid (heap_alloc_new wr (.cells #[.int .u8 tf, .string tt, .int .i64 tp] 43))
      clear k0 k1 k2 htt hsz hbw hcons hr2 HI
      go_wp2_with fail
      refine (HT2.out _).mono ?_
      rintro e wz ⟨oa, nn, c, rfl, hnn, hbz, hcase⟩
      have HZ := Lib.hid hbz
      have HZw := Lib.hid (low_more HBw.out (low_more below_oneM hbz))
      have t0 := cell_at (blk_low HTok.out hbz) 0
      have t1 := cell_at (blk_low HTok.out hbz) 1
      have t2 := cell_at (blk_low HTok.out hbz) 2
      simp only [List.getElem?_toArray, List.getElem?_cons_zero, List.getElem?_cons_succ] at t0 t1 t2
      have q1 := cell_at (blkT HB1.out.2 (low_more HB.out (low_more below_oneM hbz))) 1
      have q2 := cell_at (blkT HB1.out.2 (low_more HB.out (low_more below_oneM hbz))) 2
      simp only [List.getElem?_toArray, List.getElem?_cons_zero, List.getElem?_cons_succ] at q1 q2
      have HC := Lib.hid hcase
      clear hbz hcase d0 d1 d2 HTok HT2
      go_wp2_with fail
      by_cases hp3 : tf = f
      case neg =>
        have e3 : (tf != f) = true := bne_iff_ne.2 hp3
        have hz : res = false := by rw [HR2.out, e3]; simp
        subst hz
        go_quiet (fail)
        go_wp2_with fail
        go_ret
        exact ⟨rfl, HZw.out.trans ⟨rfl, rfl, rfl, Nat.le_refl _, fun _ _ => rfl⟩⟩
      have e3 : (tf != f) = false := by simp [hp3]
      rcases HC.out with ⟨hn1, hto⟩ | ⟨hn1, gy, oy, y, hoy, hcy, hty⟩
      · have hz : res = false := by rw [HR2.out, hto]; simp
        subst hz
        have en : ((nn : Int) != 1) = true := bne_iff_ne.2 (by omega)
        clear hto HC
        go_quiet (fail)
        go_wp2_with fail
        go_ret
        exact ⟨rfl, HZw.out.trans ⟨rfl, rfl, rfl, Nat.le_refl _, fun _ _ => rfl⟩⟩
      subst hn1
      subst hoy
      have en : ((1 : Int) != 1) = false := rfl
      obtain ⟨b, hb⟩ : ∃ b, termOk tt = b := ⟨_, rfl⟩
      rw [hb] at hty HR2
      clear HC hb
      cases b
      · have hz : res = false := by rw [HR2.out]; simp
        subst hz
        have ety : (y.toList != tt.toList) = true := by rw [bne, hty]; rfl
        go_quiet (fail)
        go_wp2_with fail
        go_ret
        exact ⟨rfl, HZw.out.trans ⟨rfl, rfl, rfl, Nat.le_refl _, fun _ _ => rfl⟩⟩
      have ety : (y.toList != tt.toList) = false := by rw [bne, hty]; rfl
      by_cases hp0 : tp < 0
      · have hz : res = false := by
          have hl := HLast.out
          by_cases hi0 : i = 0
          · rw [HR2.out, decide_eq_true hi0, bne_iff_ne.2 (by omega : tp ≠ 0)]; rfl
          · rw [HR2.out, decide_eq_true (by omega : tp ≤ last)]; simp
        subst hz
        go_quiet (fail)
        go_wp2_with fail
        go_ret
        exact ⟨rfl, HZw.out.trans ⟨rfl, rfl, rfl, Nat.le_refl _, fun _ _ => rfl⟩⟩
      by_cases hp2 : 256 < tp
      · have hz : res = false := by rw [HR2.out, decide_eq_true hp2]; simp
        subst hz
        go_quiet (fail)
        go_wp2_with fail
        go_ret
        exact ⟨rfl, HZw.out.trans ⟨rfl, rfl, rfl, Nat.le_refl _, fun _ _ => rfl⟩⟩
      by_cases hi0 : i = 0
      · subst hi0
        by_cases htz : tp = 0
        case neg =>
          have e1 : (tp != 0) = true := bne_iff_ne.2 htz
          have hz : res = false := by rw [HR2.out, e1]; rfl
          subst hz
          go_quiet (fail)
          go_wp2_with fail
          go_ret
          exact ⟨rfl, HZw.out.trans ⟨rfl, rfl, rfl, Nat.le_refl _, fun _ _ => rfl⟩⟩
        subst htz
        have HR3 := Lib.hid (show res = restB f 1 0 (ts.drop 1) from by rw [HR2.out, e3]; rw [HL0.out rfl]; rfl)
        clear HR2 HPrev
        go_quiet (fail)
        rename Nat => m1
        clear t0 t1 t2 q1 q2 hcy
        go_wp2_with fail
        go_roundg g
        case measure => omega
        case rel => exact ⟨1, 0, by omega, by go_num, Lib.hid ⟨HR3.out, fun h => by omega, by have := HLast.out; omega, HNext.out⟩, Lib.hid ((low_more HB.out (low_more below_oneM HZ.out)).trans ⟨rfl, rfl, rfl, Nat.le_refl _, fun _ _ => rfl⟩)⟩
      have hprev := HPrev.out (by omega) wz HZw.out
      have ei : ((i : Int) == 0) = false := beq_eq_false_iff_ne.2 (by omega)
      have hi2 : (0 : Int) < (i : Int) := by omega
      have hi3 : 0 < i := by omega
      obtain ⟨j, hij⟩ : ∃ j, i = j + 1 := ⟨i - 1, by omega⟩
      rw [show i - 1 = j by omega] at hprev
      have hj1 : IntKind.i64.wrap ((i : Int) - 1) = (j : Int) := by rw [show (i : Int) - 1 = (j : Int) by omega]; exact IntWalk.i64_in _ (by omega)
      have hjn : (j : Int) < (n : Int) := by omega
      clear hij
      by_cases hpl : tp ≤ last
      · have hz : res = false := by rw [HR2.out, decide_eq_true hpl]; simp
        subst hz
        go_quiet (fail)
        go_wp2_with fail
        go_ret
        exact ⟨rfl, HZw.out.trans ⟨rfl, rfl, rfl, Nat.le_refl _, fun _ _ => rfl⟩⟩
      have HR3 := Lib.hid (show res = restB f (i + 1) tp (ts.drop (i + 1)) from by rw [HR2.out, decide_eq_false hpl, decide_eq_false hp2, e3, decide_eq_false hi0]; rfl)
      clear HR2 HPrev
      go_quiet (fail)
      rename Nat => m1
      clear t0 t1 t2 q1 q2 hcy
      go_wp2_with fail
      go_roundg g
      case measure => omega
      case rel => exact ⟨i + 1, tp, by omega, by go_num, Lib.hid ⟨HR3.out, fun h => by omega, by have := HLast.out; omega, HNext.out⟩, Lib.hid ((low_more HB.out (low_more below_oneM HZ.out)).trans ⟨rfl, rfl, rfl, Nat.le_refl _, fun _ _ => rfl⟩)⟩
end Go.Proofs.YthkpaelpnofbgaaGreatDoor
/-
  A tree's text is read as the tree; what is read may be. Without the program's text.
-/
namespace Go.Proofs.YthkpaelpnofbgaaGreatDoor

def itemR (p : Int) (x : Nd) : List Nat := if brk p x.kind then 40 :: (showR x ++ [41]) else showR x
set_option maxRecDepth 100000 in
theorem showR_eq (k f : Int) (ts : List Tk) (ks : List Nd) : showR (.mk k f ts ks) = if k = 1 then leafG runesOf f ts else (if k = 4 then [33] else []) ++ showK runesOf k true ks := by
  unfold showR; rw [showG]
set_option maxRecDepth 100000 in
theorem showK_cons (k : Int) (first : Bool) (x : Nd) (l : List Nd) : showK runesOf k first (x :: l) = (if first then [] else betw k) ++ itemR k x ++ showK runesOf k false l := by
  rw [showK]; rfl
set_option maxRecDepth 100000 in
theorem skip_sp (l : List Nat) : skipB (32 :: l) = skipB l := rfl
set_option maxRecDepth 100000 in
theorem stopA_close (T : List Nat) : StopA (41 :: T) := ⟨.inr (.inr ⟨T, rfl⟩), by rw [show skipB (41 :: T) = 41 :: T from rfl]; exact ⟨by simp [headZ], show beginB 41 = false by decide +kernel⟩⟩
set_option maxRecDepth 100000 in
theorem stopO_close (T : List Nat) : StopO (41 :: T) := ⟨stopA_close T, by rw [show skipB (41 :: T) = 41 :: T from rfl]; simp [headZ]⟩
set_option maxRecDepth 100000 in
theorem stopA_or (T : List Nat) : StopA (32 :: 124 :: T) := ⟨.inr (.inl ⟨_, rfl⟩), by rw [show skipB (32 :: 124 :: T) = 124 :: T from rfl]; exact ⟨by simp [headZ], show beginB 124 = false by decide +kernel⟩⟩
set_option maxRecDepth 100000 in
theorem stopW_sp (T : List Nat) : StopW (32 :: T) := .inr (.inl ⟨_, rfl⟩)
set_option maxRecDepth 100000 in
theorem and_end (k : Nat) (ps : List Nd) {T : List Nat} (h : StopA T) : andR k ps T = .ok (joinN 2 ps) (skipB T) := by
  rw [andR_step, if_neg h.2.1, h.2.2]; rfl
set_option maxRecDepth 100000 in
theorem or_end (k : Nat) (ps : List Nd) {T : List Nat} (h : headZ (skipB T) ≠ 124) : orR k ps T = .ok (joinN 3 ps) (skipB T) := by
  rw [orR_step, if_neg h]
set_option maxRecDepth 100000 in
theorem join_many (kind : Int) (a b : Nd) (l : List Nd) : joinN kind (a :: b :: l) = .mk kind 0 [] (a :: b :: l) := rfl
set_option maxRecDepth 100000 in
theorem join_ge (kind : Int) {ps : List Nd} (h : 2 ≤ ps.length) : joinN kind ps = .mk kind 0 [] ps := by
  match ps, h with
  | a :: b :: l, _ => rfl
/-- What each tree's text is read as. -/
structure BackN (t : Nd) : Prop where
  leaf : ∀ (k : Nat) (T : List Nat), k ≤ 8 → mayT (8 - k) t = true → (t.kind = 1 ∨ t.kind = 4) → StopW T → notP k (showR t ++ T) = .ok t T
  and : ∀ (k : Nat) (T : List Nat), k ≤ 8 → mayT (8 - k) t = true → t.kind ≠ 3 → StopA T → ∃ T', andP (notP k) (showR t ++ T) = .ok t T' ∧ T' = skipB T
  or : ∀ (k : Nat) (T : List Nat), k ≤ 8 → mayT (8 - k) t = true → StopO T → orP (andP (notP k)) (showR t ++ T) = .ok t (skipB T)
set_option maxRecDepth 100000 in
theorem and_single {k : Nat} {l T : List Nat} {t : Nd} (h : notP k l = .ok t T) (hT : StopA T) : andP (notP k) l = .ok t (skipB T) := by
  rw [andP_eq, h]
  show andR k [t] T = _
  rw [and_end k _ hT]; rfl
set_option maxRecDepth 100000 in
theorem or_single {k : Nat} {l T : List Nat} {t : Nd} (h : andP (notP k) l = .ok t T) (hT : headZ (skipB T) ≠ 124) : orP (andP (notP k)) l = .ok t (skipB T) := by
  rw [orP_eq, h]
  show orR k [t] T = _
  rw [or_end k _ hT]; rfl
set_option maxRecDepth 100000 in
theorem item_not {x : Nd} (b : BackN x) (p : Int) (hp : p ≠ 3) (k : Nat) (T : List Nat) (hk : k ≤ 8) (h1 : (if brk p x.kind = true then 8 - k + 1 else 8 - k) ≤ 8) (h2 : mayT (if brk p x.kind = true then 8 - k + 1 else 8 - k) x = true) (hT : StopW T) : notP k (itemR p x ++ T) = .ok x T := by
  unfold itemR
  by_cases hb : brk p x.kind = true
  · rw [if_pos hb] at h1 h2 ⊢
    obtain ⟨j, rfl⟩ : ∃ j, k = j + 1 := ⟨k - 1, by omega⟩
    have e : 8 - (j + 1) + 1 = 8 - j := by omega
    rw [e] at h2
    have ho := b.or j (41 :: T) (by omega) h2 (stopO_close T)
    have e2 : 40 :: (showR x ++ [41]) ++ T = 40 :: (showR x ++ 41 :: T) := by simp
    rw [e2, notP, show skipB (40 :: (showR x ++ 41 :: T)) = 40 :: (showR x ++ 41 :: T) from rfl, if_neg (by simp [headZ]), if_pos (by simp [headZ]), List.drop_succ_cons, List.drop_zero, ho]
    rfl
  · rw [if_neg hb] at h1 h2 ⊢
    have hk2 := mayT_kind h2
    have hb2 : x.kind ≠ 3 ∧ x.kind ≠ 2 := by
      unfold brk at hb
      simp at hb
      exact ⟨hb.1, fun e => hp (hb.2 e)⟩
    exact b.leaf k T hk h2 (by omega) hT
set_option maxRecDepth 100000 in
theorem item_or {x : Nd} (b : BackN x) (k : Nat) (T : List Nat) (hk : k ≤ 8) (h1 : (if brk 3 x.kind = true then 8 - k + 1 else 8 - k) ≤ 8) (h2 : mayT (if brk 3 x.kind = true then 8 - k + 1 else 8 - k) x = true) (hT : StopA T) : andP (notP k) (itemR 3 x ++ T) = .ok x (skipB T) := by
  by_cases hb : brk 3 x.kind = true
  · unfold itemR
    rw [if_pos hb] at h1 h2 ⊢
    obtain ⟨j, rfl⟩ : ∃ j, k = j + 1 := ⟨k - 1, by omega⟩
    have e : 8 - (j + 1) + 1 = 8 - j := by omega
    rw [e] at h2
    have ho := b.or j (41 :: T) (by omega) h2 (stopO_close T)
    have e2 : 40 :: (showR x ++ [41]) ++ T = 40 :: (showR x ++ 41 :: T) := by simp
    refine and_single (T := T) ?_ hT
    rw [e2, notP, show skipB (40 :: (showR x ++ 41 :: T)) = 40 :: (showR x ++ 41 :: T) from rfl, if_neg (by simp [headZ]), if_pos (by simp [headZ]), List.drop_succ_cons, List.drop_zero, ho]
    rfl
  · unfold itemR
    rw [if_neg hb] at h1 h2 ⊢
    have hb2 : x.kind ≠ 3 := by
      unfold brk at hb
      simp at hb
      exact hb
    obtain ⟨T', h, rfl⟩ := b.and k T hk h2 hb2 hT
    exact h
set_option maxRecDepth 100000 in
/-- The kids of an And behind the first ones. -/
theorem and_kids (k : Nat) (hk : k ≤ 8) : ∀ (l : List Nd) (ps : List Nd) (T : List Nat), (∀ x ∈ l, BackN x) → mayK 2 (8 - k) l = true → StopA T → andR k ps (showK runesOf 2 false l ++ T) = .ok (joinN 2 (ps ++ l)) (skipB T)
  | [], ps, T, _, _, hT => by
    rw [showK, List.nil_append, List.append_nil]
    exact and_end k ps hT
  | x :: l, ps, T, hb, hm, hT => by
    obtain ⟨h1, h2⟩ := (mayK_iff _ _ _).1 hm x (by simp)
    have hm2 : mayK 2 (8 - k) l = true := (mayK_iff _ _ _).2 fun y hy => (mayK_iff _ _ _).1 hm y (by simp [hy])
    have hW : StopW (showK runesOf 2 false l ++ T) := by
      cases l with
      | nil => rw [showK]; exact hT.1
      | cons y l => rw [showK_cons]; exact stopW_sp _
    have hn := item_not (hb x (by simp)) 2 (by decide) k _ hk h1 h2 hW
    have e : showK runesOf 2 false (x :: l) ++ T = 32 :: 38 :: 32 :: (itemR 2 x ++ (showK runesOf 2 false l ++ T)) := by rw [showK_cons]; simp [betw]
    rw [e, andR_step, show skipB (32 :: 38 :: 32 :: (itemR 2 x ++ (showK runesOf 2 false l ++ T))) = 38 :: 32 :: (itemR 2 x ++ (showK runesOf 2 false l ++ T)) from rfl, if_pos (by simp [headZ]), List.drop_succ_cons, List.drop_zero, ← notP_skip, skip_sp, notP_skip, hn]
    show andR k (ps ++ [x]) _ = _
    rw [and_kids k hk l (ps ++ [x]) T (fun y hy => hb y (by simp [hy])) hm2 hT]
    simp
set_option maxRecDepth 100000 in
theorem or_kids (k : Nat) (hk : k ≤ 8) : ∀ (l : List Nd) (ps : List Nd) (T T' : List Nat), (∀ x ∈ l, BackN x) → mayK 3 (8 - k) l = true → StopO T → skipB T' = skipB (showK runesOf 3 false l ++ T) → orR k ps T' = .ok (joinN 3 (ps ++ l)) (skipB T)
  | [], ps, T, T', _, _, hT, he => by
    rw [showK, List.nil_append] at he
    rw [List.append_nil, or_end k ps (by rw [he]; exact hT.2), he]
  | x :: l, ps, T, T', hb, hm, hT, he => by
    obtain ⟨h1, h2⟩ := (mayK_iff _ _ _).1 hm x (by simp)
    have hm2 : mayK 3 (8 - k) l = true := (mayK_iff _ _ _).2 fun y hy => (mayK_iff _ _ _).1 hm y (by simp [hy])
    have hA : StopA (showK runesOf 3 false l ++ T) := by
      cases l with
      | nil => rw [showK]; exact hT.1
      | cons y l =>
        rw [showK_cons, show ((if false = true then [] else betw 3) ++ itemR 3 y ++ showK runesOf 3 false l) ++ T = 32 :: 124 :: (32 :: (itemR 3 y ++ (showK runesOf 3 false l ++ T))) by simp [betw]]
        exact stopA_or _
    have hn := item_or (hb x (by simp)) k _ hk h1 h2 hA
    have e : showK runesOf 3 false (x :: l) ++ T = 32 :: 124 :: 32 :: (itemR 3 x ++ (showK runesOf 3 false l ++ T)) := by rw [showK_cons]; simp [betw]
    rw [e] at he
    rw [orR_step, he, show skipB (32 :: 124 :: 32 :: (itemR 3 x ++ (showK runesOf 3 false l ++ T))) = 124 :: 32 :: (itemR 3 x ++ (showK runesOf 3 false l ++ T)) from rfl, if_pos (by simp [headZ]), List.drop_succ_cons, List.drop_zero, ← andP_skip, skip_sp, andP_skip, hn]
    show orR k (ps ++ [x]) _ = _
    rw [or_kids k hk l (ps ++ [x]) T _ (fun y hy => hb y (by simp [hy])) hm2 hT (skipB_skip _)]
    simp
set_option maxRecDepth 100000 in
theorem may_leaf {w : Nat} {f : Int} {ts : List Tk} {ks : List Nd} (h : mayT w (.mk 1 f ts ks) = true) : ks = [] ∧ 0 ≤ f ∧ f < 4 ∧ mayLeafB f ts = true := by
  rw [mayT, if_pos rfl] at h
  simp only [Bool.and_eq_true, decide_eq_true_eq, List.isEmpty_iff] at h
  exact ⟨h.1.1.1, h.1.1.2, h.1.2, h.2⟩
set_option maxRecDepth 100000 in
theorem may_not {w : Nat} {f : Int} {ts : List Tk} {ks : List Nd} (h : mayT w (.mk 4 f ts ks) = true) : ∃ x, ks = [x] ∧ f = 0 ∧ ts = [] ∧ mayK 4 (w + 1) ks = true := by
  rw [mayT, if_neg (by decide)] at h
  simp at h
  obtain ⟨⟨⟨h1, h2⟩, h3⟩, h4⟩ := h
  match ks, h1, h4 with
  | [x], _, h4 => exact ⟨x, rfl, h2, h3, h4⟩
set_option maxRecDepth 100000 in
theorem may_more {w : Nat} {k f : Int} {ts : List Tk} {ks : List Nd} (hk : k = 2 ∨ k = 3) (h : mayT w (.mk k f ts ks) = true) : ∃ x l, ks = x :: l ∧ l ≠ [] ∧ f = 0 ∧ ts = [] ∧ mayK k w ks = true := by
  rw [mayT, if_neg (by omega), if_neg (by omega)] at h
  simp only [Bool.and_eq_true, Bool.or_eq_true, decide_eq_true_eq, beq_iff_eq, List.isEmpty_iff] at h
  obtain ⟨⟨⟨h1, h2⟩, h3⟩, h4⟩ := h
  have h5 : 2 ≤ ks.length := by omega
  match ks, h5, h4 with
  | x :: y :: l, _, h4 => exact ⟨x, y :: l, rfl, by simp, h2, h3, h4⟩
set_option maxRecDepth 100000 in
theorem back_all : ∀ t, BackN t := by
  refine Nd.induct fun k f ts ks ih => ?_
  have hleaf : ∀ (j : Nat) (T : List Nat), j ≤ 8 → mayT (8 - j) (.mk k f ts ks) = true → (k = 1 ∨ k = 4) → StopW T → notP j (showR (.mk k f ts ks) ++ T) = .ok (.mk k f ts ks) T := by
    intro j T hj hm hk hT
    rcases hk with rfl | rfl
    · obtain ⟨rfl, hf0, hf, hl⟩ := may_leaf hm
      have hb := back_leaf j f hf0 hf ts hl hT
      rw [showR_eq, if_pos rfl]
      have hh : ∀ l, headZ (skipB (leafG runesOf f ts ++ l)) = 48 + (f.toNat : Int) := fun l => by
        unfold leafG
        rw [List.cons_append, skip_field (by omega) (by omega)]
        simp [headZ]
      cases j with
      | zero => rw [notP, hh, if_neg (by omega), leafP_skip, hb]
      | succ j => rw [notP, hh, if_neg (by omega), if_neg (by omega), leafP_skip, hb]
    · obtain ⟨x, rfl, rfl, rfl, h4⟩ := may_not hm
      obtain ⟨h1, h2⟩ := (mayK_iff _ _ _).1 h4 x (by simp)
      obtain ⟨i, rfl⟩ : ∃ i, j = i + 1 := ⟨j - 1, by split at h1 <;> omega⟩
      have e : 8 - (i + 1) + 1 = 8 - i := by omega
      rw [e] at h1 h2
      have hn := item_not (ih x (by simp)) 4 (by decide) i T (by omega) h1 h2 hT
      rw [showR_eq, if_neg (by decide), if_pos rfl, showK_cons]
      rw [show [33] ++ ((if true = true then [] else betw 4) ++ itemR 4 x ++ showK runesOf 4 false []) ++ T = 33 :: (itemR 4 x ++ T) by rw [showK]; simp, notP, show skipB (33 :: (itemR 4 x ++ T)) = 33 :: (itemR 4 x ++ T) from rfl, if_pos (by simp [headZ]), List.drop_succ_cons, List.drop_zero, hn]
      rfl
  have hand : ∀ (j : Nat) (T : List Nat), j ≤ 8 → mayT (8 - j) (.mk k f ts ks) = true → k ≠ 3 → StopA T → andP (notP j) (showR (.mk k f ts ks) ++ T) = .ok (.mk k f ts ks) (skipB T) := by
    intro j T hj hm hk hT
    have hkk : k = 1 ∨ k = 2 ∨ k = 3 ∨ k = 4 := mayT_kind hm
    by_cases h14 : k = 1 ∨ k = 4
    · exact and_single (hleaf j T hj hm h14 hT.1) hT
    · obtain rfl : k = 2 := by omega
      obtain ⟨x, l, rfl, hl, rfl, rfl, hm2⟩ := may_more (.inl rfl) hm
      obtain ⟨h1, h2⟩ := (mayK_iff _ _ _).1 hm2 x (by simp)
      have hm3 : mayK 2 (8 - j) l = true := (mayK_iff _ _ _).2 fun y hy => (mayK_iff _ _ _).1 hm2 y (by simp [hy])
      have hW : StopW (showK runesOf 2 false l ++ T) := by
        cases l with
        | nil => exact absurd rfl hl
        | cons y l => rw [showK_cons]; exact stopW_sp _
      have hn := item_not (ih x (by simp)) 2 (by decide) j _ hj h1 h2 hW
      rw [showR_eq, if_neg (by decide), if_neg (by decide), showK_cons]
      rw [show [] ++ ((if true = true then [] else betw 2) ++ itemR 2 x ++ showK runesOf 2 false l) ++ T = itemR 2 x ++ (showK runesOf 2 false l ++ T) by simp, andP_eq, hn]
      show andR j [x] _ = _
      rw [and_kids j hj l [x] T (fun y hy => ih y (by simp [hy])) hm3 hT, List.singleton_append, join_ge 2 (by cases l with | nil => exact absurd rfl hl | cons y l => simp)]
  refine ⟨hleaf, fun j T hj hm hk hT => ⟨_, hand j T hj hm hk hT, rfl⟩, fun j T hj hm hT => ?_⟩
  have hkk : k = 1 ∨ k = 2 ∨ k = 3 ∨ k = 4 := mayT_kind hm
  by_cases h3 : k = 3
  · subst h3
    obtain ⟨x, l, rfl, hl, rfl, rfl, hm2⟩ := may_more (.inr rfl) hm
    obtain ⟨h1, h2⟩ := (mayK_iff _ _ _).1 hm2 x (by simp)
    have hm3 : mayK 3 (8 - j) l = true := (mayK_iff _ _ _).2 fun y hy => (mayK_iff _ _ _).1 hm2 y (by simp [hy])
    have hA : StopA (showK runesOf 3 false l ++ T) := by
      cases l with
      | nil => exact absurd rfl hl
      | cons y l =>
        rw [showK_cons, show ((if false = true then [] else betw 3) ++ itemR 3 y ++ showK runesOf 3 false l) ++ T = 32 :: 124 :: (32 :: (itemR 3 y ++ (showK runesOf 3 false l ++ T))) by simp [betw]]
        exact stopA_or _
    have hn := item_or (ih x (by simp)) j _ hj h1 h2 hA
    rw [showR_eq, if_neg (by decide), if_neg (by decide), showK_cons]
    rw [show [] ++ ((if true = true then [] else betw 3) ++ itemR 3 x ++ showK runesOf 3 false l) ++ T = itemR 3 x ++ (showK runesOf 3 false l ++ T) by simp, orP_eq, hn]
    show orR j [x] _ = _
    rw [or_kids j hj l [x] T _ (fun y hy => ih y (by simp [hy])) hm3 hT (skipB_skip _), List.singleton_append, join_ge 3 (by cases l with | nil => exact absurd rfl hl | cons y l => simp)]
  · have := or_single (hand j T hj hm h3 hT.1) (by rw [skipB_skip]; exact hT.2)
    rw [this, skipB_skip]

/-! ### The whole query's text -/
def digitsL (n : Int) : List Nat := if n < 10 then [48 + n.toNat] else [48 + n.toNat / 10, 48 + n.toNat % 10]
def orderL (o : Int) : List Nat := if o = 1 then [110, 101, 119] else [114, 97, 110, 107]
def wholeR (g : ByteArray → List Nat) (t : Nd) (lim ord : Int) : List Nat := showG g t ++ 32 :: 35 :: (digitsL lim ++ 32 :: 64 :: orderL ord)
def mayQ (t : Nd) (lim ord : Int) : Bool := decide (0 ≤ lim) && decide (lim ≤ 64) && (ord == 0 || ord == 1) && mayT 0 t
set_option maxRecDepth 100000 in
theorem digits_let : ∀ n : Nat, n ≤ 64 → digitsL (n : Int) ≠ [] ∧ (∀ c ∈ digitsL (n : Int), letB c = true) ∧ limZ (digitsL (n : Int)) = (n : Int) := by decide +kernel
set_option maxRecDepth 100000 in
theorem order_let (o : Int) (h : o = 0 ∨ o = 1) : orderL o ≠ [] ∧ (∀ c ∈ orderL o, letB c = true) := by
  rcases h with rfl | rfl <;> decide +kernel
set_option maxRecDepth 100000 in
theorem back_query (t : Nd) (lim ord : Int) (h : mayQ t lim ord = true) : ∃ o, parseR (wholeR runesOf t lim ord) = .ok (t, o) [] ∧ o.lim = lim ∧ o.ord = ord := by
  unfold mayQ at h
  simp only [Bool.and_eq_true, Bool.or_eq_true, decide_eq_true_eq, beq_iff_eq] at h
  obtain ⟨⟨⟨h1, h2⟩, h3⟩, h4⟩ := h
  obtain ⟨n, rfl⟩ : ∃ n : Nat, lim = n := ⟨lim.toNat, by omega⟩
  obtain ⟨d1, d2, d3⟩ := digits_let n (by omega)
  obtain ⟨o1, o2⟩ := order_let ord h3
  have hO : StopO (32 :: 35 :: (digitsL n ++ 32 :: 64 :: orderL ord)) := by
    refine ⟨⟨stopW_sp _, ?_⟩, ?_⟩
    · rw [skip_sp, show ∀ l, skipB (35 :: l) = 35 :: l from fun _ => rfl]; exact ⟨by simp [headZ], show beginB 35 = false by decide +kernel⟩
    · rw [skip_sp, show ∀ l, skipB (35 :: l) = 35 :: l from fun _ => rfl]; simp [headZ]
  have hb := (back_all t).or 8 _ (Nat.le_refl _) h4 hO
  have hl : limitP (digitsL n ++ 32 :: 64 :: orderL ord) = .ok (n : Int) (32 :: 64 :: orderL ord) := by
    unfold limitP
    rw [word_at 8 d1 d2 (stopW_let (stopW_sp _))]
    show (if limZ (digitsL n) = -1 then _ else _) = _
    rw [d3, if_neg (by omega)]
  have hr : orderP (orderL ord) = .ok ord [] := by
    have hw := word_at 8 (T := []) o1 o2 (by simp)
    rw [List.append_nil] at hw
    unfold orderP
    rw [hw]
    show (if orderL ord = [110, 101, 119] then _ else if orderL ord = [114, 97, 110, 107] then _ else _) = _
    rcases h3 with rfl | rfl <;> rfl
  refine ⟨⟨n, true, ord, true⟩, ?_, rfl, rfl⟩
  unfold wholeR
  rw [parseR_eq, show showG runesOf t = showR t from rfl, hb]
  show (optR ⟨10, false, 0, false⟩ (skipB (32 :: 35 :: (digitsL n ++ 32 :: 64 :: orderL ord)))).map _ = _
  rw [skip_sp, show ∀ l, skipB (35 :: l) = 35 :: l from fun _ => rfl, optR_step, show ∀ l, skipB (35 :: l) = 35 :: l from fun _ => rfl, if_pos ⟨by simp [headZ], rfl⟩, List.drop_succ_cons, List.drop_zero, hl]
  show (optR ⟨n, true, 0, false⟩ (32 :: 64 :: orderL ord)).map _ = _
  rw [optR_step, skip_sp, show ∀ l, skipB (64 :: l) = 64 :: l from fun _ => rfl, if_neg (by simp), if_pos ⟨by simp [headZ], rfl⟩, List.drop_succ_cons, List.drop_zero, hr]
  show (optR ⟨n, true, ord, true⟩ []).map _ = _
  rw [optR_step]
  rfl

/-! ### Bytes and runes -/
set_option maxRecDepth 100000 in
theorem textL_append (a b : List Nat) : textL (a ++ b) = textL a ++ textL b := by unfold textL; rw [List.flatMap_append]
set_option maxRecDepth 100000 in
theorem textL_low : ∀ {l : List Nat}, (∀ c ∈ l, c < 128) → textL l = l
  | [], _ => rfl
  | c :: l, h => by
    have e : encR c = [c] := by unfold encR; rw [if_pos (h c (by simp))]
    show encR c ++ textL l = _
    rw [e, textL_low fun x hx => h x (by simp [hx])]
    rfl
set_option maxRecDepth 100000 in
theorem inter_text (ts : List Tk) : ∀ n : Nat, (∀ t ∈ ts, termOk t.2.1 = true) → textL (interL (padG runesOf n ts)) = interL (padG bytesL n ts) := by
  have hi : ∀ l : List (List Nat), textL (interL l) = interL (l.map textL) := by
    intro l
    induction l with
    | nil => rfl
    | cons a l ih =>
      cases l with
      | nil => rfl
      | cons b l =>
        rw [interL, textL_append, List.map_cons, List.map_cons, interL]
        rw [List.map_cons] at ih
        rw [← ih]
        rfl
  intro n h
  rw [hi]
  congr 1
  induction ts generalizing n with
  | nil => rfl
  | cons t ts ih =>
    rw [padG, padG, List.map_append, List.map_replicate, List.map_cons, ih _ fun x hx => h x (by simp [hx]), ← (letters_of (h t (by simp))).2.2]
    rfl
set_option maxRecDepth 100000 in
theorem leaf_text (f : Int) (hf : f < 4) (ts : List Tk) (h : ∀ t ∈ ts, termOk t.2.1 = true) : textL (leafG runesOf f ts) = leafG bytesL f ts := by
  have e : ∀ l, textL ((48 + f.toNat) :: 58 :: l) = (48 + f.toNat) :: 58 :: textL l := fun l => by
    have := textL_append [48 + f.toNat, 58] l
    rw [textL_low (l := [48 + f.toNat, 58]) (by simp; omega)] at this
    exact this
  have g : ∀ l, textL (34 :: l ++ [34]) = 34 :: textL l ++ [34] := fun l => by
    rw [textL_append, textL_low (l := [34]) (by simp)]
    rfl
  unfold leafG
  rw [e]
  match ts, h with
  | [], h => rfl
  | [t], h => simp only; rw [(letters_of (h t (by simp))).2.2]
  | a :: b :: ts, h => simp only; rw [g, inter_text _ 0 h]
set_option maxRecDepth 100000 in
theorem show_text : ∀ (t : Nd) (w : Nat), mayT w t = true → textL (showR t) = showB t := by
  refine Nd.induct fun k f ts ks ih w hm => ?_
  have hkids : ∀ (l : List Nd) (b : Bool), (∀ x ∈ l, textL (showR x) = showB x) → textL (showK runesOf k b l) = showK bytesL k b l := by
    intro l
    induction l with
    | nil => intro b _; rw [showK, showK]; rfl
    | cons x l ih2 =>
      intro b hx
      have h1 := hx x (by simp)
      rw [showK, showK, textL_append, textL_append, ih2 false fun y hy => hx y (by simp [hy])]
      have hb : textL (if b = true then [] else betw k) = if b = true then [] else betw k := by
        apply textL_low
        intro c hc
        split at hc
        · simp at hc
        · unfold betw at hc
          split at hc
          · simp at hc; omega
          · split at hc
            · simp at hc; omega
            · simp at hc
      rw [hb]
      congr 2
      split
      · show textL (40 :: (showR x ++ [41])) = _
        rw [show textL (40 :: (showR x ++ [41])) = 40 :: textL (showR x ++ [41]) from rfl, textL_append, h1]
        rfl
      · exact h1
  unfold showB
  rw [showR_eq, showG]
  by_cases h1 : k = 1
  · subst h1
    obtain ⟨rfl, hf0, hf, hl⟩ := may_leaf hm
    unfold mayLeafB at hl
    rw [Bool.and_eq_true] at hl
    rw [if_pos rfl, if_pos rfl, leaf_text f hf ts fun t ht => (mayTs_all f ts _ hl.2 t ht).2.2.2]
  · rw [if_neg h1, if_neg h1, textL_append]
    rw [mayT, if_neg h1, Bool.and_eq_true, mayK_iff] at hm
    rw [hkids ks true fun x hx => ih x hx _ (hm.2 x hx).2]
    congr 1
    split <;> rfl
set_option maxRecDepth 100000 in
theorem low_ok {l : List Nat} (h : ∀ c ∈ l, c < 128) : ∀ c ∈ l, okR c := fun c hc => ok_low (h c hc)
set_option maxRecDepth 100000 in
theorem inter_ok : ∀ l : List (List Nat), (∀ q ∈ l, ∀ c ∈ q, okR c) → ∀ c ∈ interL l, okR c
  | [], _, c, hc => by simp [interL] at hc
  | [a], h, c, hc => h a (by simp) c hc
  | a :: b :: l, h, c, hc => by
    rw [interL] at hc
    rcases List.mem_append.1 hc with hc | hc
    · exact h a (by simp) c hc
    · rcases List.mem_cons.1 hc with rfl | hc
      · exact ok_blank
      · exact inter_ok (b :: l) (fun q hq => h q (by simp at hq ⊢; exact .inr hq)) c hc
set_option maxRecDepth 100000 in
theorem pad_ok (ts : List Tk) : ∀ n : Nat, ∀ q ∈ padG runesOf n ts, ∀ c ∈ q, okR c := by
  induction ts with
  | nil => intro n q hq; simp [padG] at hq
  | cons t ts ih =>
    intro n q hq c hc
    rw [padG] at hq
    rcases List.mem_append.1 hq with hq | hq
    · have := List.eq_of_mem_replicate hq
      subst this
      simp at hc; subst hc; decide
    · rcases List.mem_cons.1 hq with rfl | hq
      · exact runesOf_ok _ c hc
      · exact ih _ q hq c hc
set_option maxRecDepth 100000 in
theorem leaf_oks (f : Int) (hf : f < 4) (ts : List Tk) : ∀ c ∈ leafG runesOf f ts, okR c := by
  intro c hc
  unfold leafG at hc
  rcases List.mem_cons.1 hc with rfl | hc
  · exact ok_low (by omega)
  · rcases List.mem_cons.1 hc with rfl | hc
    · decide
    · have ph : ∀ ts, c ∈ 34 :: interL (padG runesOf 0 ts) ++ [34] → okR c := fun ts hc => by
        simp at hc
        rcases hc with rfl | hc | rfl
        · decide
        · exact inter_ok _ (pad_ok ts 0) c hc
        · decide
      match ts, hc with
      | [], hc => exact ph [] hc
      | [t], hc => exact runesOf_ok _ c hc
      | a :: b :: ts, hc => exact ph (a :: b :: ts) hc
set_option maxRecDepth 100000 in
theorem show_ok : ∀ (t : Nd) (w : Nat), mayT w t = true → ∀ c ∈ showR t, okR c := by
  refine Nd.induct fun k f ts ks ih w hm => ?_
  have hkids : ∀ (l : List Nd) (b : Bool), (∀ x ∈ l, ∀ c ∈ showR x, okR c) → ∀ c ∈ showK runesOf k b l, okR c := by
    intro l
    induction l with
    | nil => intro b _ c hc; rw [showK] at hc; simp at hc
    | cons x l ih2 =>
      intro b hx c hc
      rw [showK_cons] at hc
      rcases List.mem_append.1 hc with hc | hc
      · rcases List.mem_append.1 hc with hc | hc
        · refine ok_low ?_
          split at hc
          · simp at hc
          · unfold betw at hc
            split at hc
            · simp at hc; omega
            · split at hc
              · simp at hc; omega
              · simp at hc
        · unfold itemR at hc
          split at hc
          · simp at hc
            rcases hc with rfl | hc | rfl
            · decide
            · exact hx x (by simp) c hc
            · decide
          · exact hx x (by simp) c hc
      · exact ih2 false (fun y hy => hx y (by simp [hy])) c hc
  intro c hc
  rw [showR_eq] at hc
  by_cases h1 : k = 1
  · subst h1
    obtain ⟨rfl, hf0, hf, hl⟩ := may_leaf hm
    rw [if_pos rfl] at hc
    exact leaf_oks f hf ts c hc
  · rw [if_neg h1] at hc
    rw [mayT, if_neg h1, Bool.and_eq_true, mayK_iff] at hm
    rcases List.mem_append.1 hc with hc | hc
    · split at hc
      · simp at hc; subst hc; decide
      · simp at hc
    · exact hkids ks true (fun x hx => ih x hx _ (hm.2 x hx).2) c hc
set_option maxRecDepth 100000 in
theorem tail_low (lim ord : Int) (h1 : 0 ≤ lim) (h2 : lim ≤ 64) : ∀ c ∈ 32 :: 35 :: (digitsL lim ++ 32 :: 64 :: orderL ord), c < 128 := by
  intro c hc
  simp at hc
  unfold digitsL orderL at hc
  rcases hc with rfl | rfl | hc | rfl | rfl | hc
  · omega
  · omega
  · split at hc
    · simp at hc; omega
    · simp at hc; omega
  · omega
  · omega
  · split at hc
    · simp at hc; omega
    · simp at hc; omega
set_option maxRecDepth 100000 in
theorem whole_text (t : Nd) (lim ord : Int) (h : mayQ t lim ord = true) : textL (wholeR runesOf t lim ord) = wholeR bytesL t lim ord ∧ ∀ r ∈ wholeR runesOf t lim ord, okR r := by
  unfold mayQ at h
  simp only [Bool.and_eq_true, decide_eq_true_eq] at h
  obtain ⟨⟨⟨h1, h2⟩, h3⟩, h4⟩ := h
  have hl := tail_low lim ord h1 h2
  unfold wholeR
  constructor
  · rw [textL_append, textL_low hl]
    rw [show textL (showG runesOf t) = showG bytesL t from show_text t 0 h4]
  · intro r hr
    rcases List.mem_append.1 hr with hr | hr
    · exact show_ok t 0 h4 r hr
    · exact ok_low (hl r hr)
set_option maxRecDepth 100000 in
theorem enc_byte {r : Nat} (h : okR r) : ∀ b ∈ encR r, b < 256 := by
  intro b hb
  unfold okR at h
  unfold encR at hb
  split at hb
  · simp at hb; omega
  · split at hb
    · simp at hb; omega
    · split at hb
      · simp at hb; omega
      · simp at hb; omega
set_option maxRecDepth 100000 in
theorem textL_byte {l : List Nat} (h : ∀ r ∈ l, okR r) : ∀ b ∈ textL l, b < 256 := by
  intro b hb
  unfold textL at hb
  obtain ⟨r, hr, hb⟩ := List.mem_flatMap.1 hb
  exact enc_byte (h r hr) b hb
set_option maxRecDepth 100000 in
/-- The text that is shown of a query that may be has just its runes, and is read as the query. -/
theorem shown_back (t : Nd) (lim ord : Int) (h : mayQ t lim ord = true) : ∃ o, parseR (runesOf (byteText (wholeR bytesL t lim ord))) = .ok (t, o) [] ∧ o.lim = lim ∧ o.ord = ord := by
  obtain ⟨h1, h2⟩ := whole_text t lim ord h
  have h3 := textL_byte h2
  have : runesOf (byteText (wholeR bytesL t lim ord)) = wholeR runesOf t lim ord := by
    unfold runesOf
    rw [← h1, bytesL_byteText _ h3]
    have := runes_text (wholeR runesOf t lim ord) h2 []
    rw [List.append_nil, runesL_nil, List.append_nil] at this
    exact this
  rw [this]
  exact back_query t lim ord h
end Go.Proofs.YthkpaelpnofbgaaGreatDoor
/-
  What is read may be; a word in brackets, behind signs that turn it. Without the program's text.
-/
namespace Go.Proofs.YthkpaelpnofbgaaGreatDoor

structure Fit (l : List Nat) : Prop where
  few : l.length ≤ 256
  ok : ∀ r ∈ l, okR r
set_option maxRecDepth 100000 in
theorem Fit.suffix {l m : List Nat} (h : Fit l) (hs : m <:+ l) : Fit m := ⟨Nat.le_trans hs.length_le h.few, fun r hr => h.ok r (hs.subset hr)⟩
set_option maxRecDepth 100000 in
theorem word_parts {k : Nat} {l q l' : List Nat} (h : wordP k l = .ok q l') : l' <:+ l ∧ ∀ c ∈ q, c ∈ l ∧ letB c = true := by
  unfold wordP at h
  split at h
  · cases h
  · injection h with h1 h2
    subst h1 h2
    refine ⟨(List.dropWhile_suffix _).trans (skip_suffix l), fun c hc => ⟨(skip_suffix l).subset (List.takeWhile_subset _ hc), ?_⟩⟩
    have : ∀ s : List Nat, ∀ c ∈ s.takeWhile letB, letB c = true := by
      intro s
      induction s with
      | nil => intro c hc; simp at hc
      | cons a s ih =>
        intro c hc
        rw [List.takeWhile_cons] at hc
        split at hc
        · rcases List.mem_cons.1 hc with rfl | hc
          · assumption
          · exact ih c hc
        · simp at hc
    exact this _ c hc
set_option maxRecDepth 100000 in
theorem word_len {k : Nat} {l q l' : List Nat} (h : wordP k l = .ok q l') : q.length ≤ l.length := by
  unfold wordP at h
  split at h
  · cases h
  · injection h with h1 h2
    subst h1
    have := (List.takeWhile_prefix letB (l := skipB l)).length_le
    have := skipB_le l
    omega
set_option maxRecDepth 100000 in
theorem phrase_parts {l q l' : List Nat} (h : phraseP l = .ok q l') : l' <:+ l ∧ (∀ c ∈ q, c ∈ l) ∧ q.length ≤ l.length := by
  unfold phraseP at h
  split at h
  · injection h with h1 h2
    subst h1 h2
    exact ⟨(List.drop_suffix _ _).trans (List.dropWhile_suffix _), fun c hc => List.takeWhile_subset _ hc, (List.takeWhile_prefix _).length_le⟩
  · cases h
set_option maxRecDepth 100000 in
theorem field_parts (l : List Nat) : (fieldP l).2 <:+ l ∧ 0 ≤ (fieldP l).1 ∧ (fieldP l).1 < 4 := by
  have h := skip_suffix l
  unfold fieldP
  split
  · rename_i c r hs
    rw [hs] at h
    split
    · refine ⟨(List.suffix_cons 58 r).trans ((List.suffix_cons c _).trans h), ?_, ?_⟩
      · simp only; omega
      · simp only; omega
    · exact ⟨h, by simp, by simp⟩
  · exact ⟨h, by simp, by simp⟩
set_option maxRecDepth 100000 in
theorem leaf_parts {k : Nat} {l l' : List Nat} {t : Nd} (h : leafP k l = .ok t l') : l' <:+ l ∧ ∃ f q, t = leafNd f q ∧ 0 ≤ f ∧ f < 4 ∧ (∀ c ∈ q, c ∈ l) ∧ q.length ≤ l.length := by
  obtain ⟨h1, h2, h3⟩ := field_parts l
  unfold leafP at h
  split at h
  · obtain ⟨q, e, rfl⟩ := map_ok h
    obtain ⟨g1, g2, g3⟩ := phrase_parts e
    have hd : (skipB (fieldP l).2).drop 1 <:+ l := (List.drop_suffix _ _).trans ((skip_suffix _).trans h1)
    exact ⟨g1.trans hd, _, q, rfl, h2, h3, fun c hc => hd.subset (g2 c hc), Nat.le_trans g3 hd.length_le⟩
  · obtain ⟨q, e, rfl⟩ := map_ok h
    obtain ⟨g1, g2⟩ := word_parts e
    exact ⟨g1.trans h1, _, q, rfl, h2, h3, fun c hc => h1.subset (g2 c hc).1, Nat.le_trans (word_len e) h1.length_le⟩
set_option maxRecDepth 100000 in
theorem limit_parts {l l' : List Nat} {n : Int} (h : limitP l = .ok n l') : l' <:+ l ∧ 0 ≤ n ∧ n ≤ 64 := by
  obtain ⟨q, l1, h1, h2⟩ := bind_ok h
  have h3 := (word_parts h1).1
  split at h2
  · cases h2
  · rename_i hn
    injection h2 with h4 h5
    subst h4 h5
    refine ⟨h3, ?_⟩
    unfold limZ at hn ⊢
    split at hn
    · split at hn
      · omega
      · simp at hn
    · split at hn
      · omega
      · simp at hn
    · simp at hn
set_option maxRecDepth 100000 in
theorem order_parts {l l' : List Nat} {n : Int} (h : orderP l = .ok n l') : l' <:+ l ∧ (n = 0 ∨ n = 1) := by
  obtain ⟨q, l1, h1, h2⟩ := bind_ok h
  have h3 := (word_parts h1).1
  split at h2
  · injection h2 with h4 h5; subst h4 h5; exact ⟨h3, .inr rfl⟩
  · split at h2
    · injection h2 with h4 h5; subst h4 h5; exact ⟨h3, .inl rfl⟩
    · cases h2
set_option maxRecDepth 100000 in
theorem same_self {α : Type} {P : List Nat → Prop} (x : PR α) (h : ∀ a l, x = .ok a l → P l) : Same2 (fun l m => l = m ∧ P l) x x := by
  cases x with
  | ok a l => exact ⟨rfl, rfl, h a l rfl⟩
  | err e => exact rfl
set_option maxRecDepth 100000 in
theorem like_fit : Like (fun l m => l = m ∧ Fit l) where
  skip := fun ⟨h, h2⟩ => ⟨by rw [h], h2.suffix (skip_suffix _)⟩
  sign := fun ⟨h, _⟩ s _ => by rw [h]
  beg := fun ⟨h, _⟩ => by rw [h]
  drop := fun ⟨h, h2⟩ _ => ⟨by rw [h], h2.suffix (List.drop_suffix _ _)⟩
  leaf := fun k l m ⟨h, h2⟩ => by subst h; exact same_self _ fun a l1 e => h2.suffix (leaf_parts e).1
  limit := fun {l m} ⟨h, h2⟩ => by subst h; exact same_self _ fun a l1 e => h2.suffix (limit_parts e).1
  order := fun {l m} ⟨h, h2⟩ _ => by subst h; exact same_self _ fun a l1 e => h2.suffix ((order_parts e).1.trans (List.drop_suffix _ _))
  nil := ⟨rfl, by simp, by simp⟩
set_option maxRecDepth 100000 in
theorem fit_of {α : Type} {x : PR α} {P : List Nat → Prop} (h : Same2 (fun l m => l = m ∧ P l) x x) {a : α} {l : List Nat} (e : x = .ok a l) : P l := by
  subst e; exact h.2.2
set_option maxRecDepth 100000 in
theorem fit_not (k : Nat) {l l' : List Nat} {t : Nd} (h : Fit l) (e : notP k l = .ok t l') : Fit l' := fit_of (like_fit.not k l l ⟨rfl, h⟩) e
set_option maxRecDepth 100000 in
theorem fit_and (k : Nat) {l l' : List Nat} {t : Nd} (h : Fit l) (e : andP (notP k) l = .ok t l') : Fit l' := fit_of (like_fit.and_p k (like_fit.not k) ⟨rfl, h⟩) e
set_option maxRecDepth 100000 in
theorem fit_or (k : Nat) {l l' : List Nat} {t : Nd} (h : Fit l) (e : orP (andP (notP k)) l = .ok t l') : Fit l' := fit_of (like_fit.or_p k (like_fit.not k) ⟨rfl, h⟩) e

/-! ### A leaf that is read may be -/
set_option maxRecDepth 100000 in
theorem termOk_of {t : List Nat} (h : Term t) (hs : stopB t = false) : termOk (byteText t) = true := by
  unfold termOk
  rw [words_of_term h hs]
  simp [bytesL_byteText t (term_lt h)]
set_option maxRecDepth 100000 in
theorem mayTs_places (f : Int) (s : Nat) : ∀ (L : List (List Nat)) (n : Nat) (last : Int), (∀ t ∈ L, Term t) → last < (n : Int) - s → n + L.length ≤ 257 → mayTs f last ((placesF n L).map fun x => (f, byteText x.1, (x.2 : Int) - s)) = true
  | [], _, _, _, _, _ => rfl
  | t :: L, n, last, h, hl, hn => by
    rw [List.length_cons] at hn
    rw [placesF]
    split
    · exact mayTs_places f s L (n + 1) last (fun x hx => h x (by simp [hx])) (by omega) (by omega)
    · rename_i hs
      rw [List.map_cons, mayTs]
      simp only [Bool.and_eq_true, decide_eq_true_eq, beq_self_eq_true, and_true]
      refine ⟨⟨⟨hl, by omega⟩, termOk_of (h t (by simp)) (by simpa using hs)⟩, mayTs_places f s L (n + 1) _ (fun x hx => h x (by simp [hx])) (by omega) (by omega)⟩
set_option maxRecDepth 100000 in
theorem mayLeaf_places (f : Int) : ∀ (L : List (List Nat)) (n : Nat), (∀ t ∈ L, Term t) → n + L.length ≤ 257 → mayLeafB f (leafW f (placesF n L)) = true
  | [], _, _, _ => rfl
  | t :: L, n, h, hn => by
    rw [List.length_cons] at hn
    rw [placesF]
    split
    · exact mayLeaf_places f L (n + 1) (fun x hx => h x (by simp [hx])) (by omega)
    · rename_i hs
      unfold leafW mayLeafB
      rw [show firstP ((t, n) :: placesF (n + 1) L) = n from rfl, List.map_cons, mayTs]
      simp only [Bool.and_eq_true, decide_eq_true_eq, beq_self_eq_true, and_true, beq_iff_eq]
      refine ⟨by omega, ⟨⟨by omega, by omega⟩, termOk_of (h t (by simp)) (by simpa using hs)⟩, mayTs_places f n L (n + 1) _ (fun x hx => h x (by simp [hx])) (by omega) (by omega)⟩
set_option maxRecDepth 100000 in
theorem allR_term {q : List Nat} (h : ∀ r ∈ q, okR r) : ∀ t ∈ allR q, Term t := by
  refine (fair0.run (q ++ [32]) fun r hr => ?_).out
  rcases List.mem_append.1 hr with h1 | h1
  · exact h r h1
  · simp at h1; subst h1; exact ok_blank
set_option maxRecDepth 100000 in
theorem allR_few (q : List Nat) : (allR q).length ≤ q.length + 1 := by
  rw [allR_cut, List.length_map]
  exact cutA_le q []
set_option maxRecDepth 100000 in
theorem may_leafNd (w : Nat) (f : Int) (h0 : 0 ≤ f) (h4 : f < 4) (q : List Nat) (hq : ∀ r ∈ q, okR r) (hl : q.length ≤ 256) : mayT w (leafNd f q) = true := by
  unfold leafNd
  rw [mayT, if_pos rfl]
  simp only [Bool.and_eq_true, decide_eq_true_eq, List.isEmpty_nil, true_and]
  have := allR_few q
  exact ⟨⟨h0, h4⟩, mayLeaf_places f (allR q) 0 (allR_term hq) (by omega)⟩

/-! ### What is read may be -/
def NotR (k : Nat) (t : Nd) : Prop := ((t.kind = 1 ∨ t.kind = 4) ∧ mayT (8 - k) t = true) ∨ ((t.kind = 2 ∨ t.kind = 3) ∧ 1 ≤ k ∧ mayT (8 - k + 1) t = true)
def AndR (k : Nat) (t : Nd) : Prop := ((t.kind = 1 ∨ t.kind = 4 ∨ t.kind = 2) ∧ mayT (8 - k) t = true) ∨ (t.kind = 3 ∧ 1 ≤ k ∧ mayT (8 - k + 1) t = true)
set_option maxRecDepth 100000 in
theorem NotR.and {k : Nat} {t : Nd} (h : NotR k t) : AndR k t := by
  rcases h with ⟨h1, h2⟩ | ⟨h1 | h1, h2, h3⟩
  · exact .inl ⟨by omega, h2⟩
  · exact .inl ⟨by omega, mayT_less _ _ _ (by omega) h3⟩
  · exact .inr ⟨h1, h2, h3⟩
set_option maxRecDepth 100000 in
theorem AndR.or {k : Nat} {t : Nd} (h : AndR k t) : mayT (8 - k) t = true := by
  rcases h with ⟨h1, h2⟩ | ⟨h1, h2, h3⟩
  · exact h2
  · exact mayT_less _ _ _ (by omega) h3
set_option maxRecDepth 100000 in
theorem NotR.item {k : Nat} {t : Nd} (hk : k ≤ 8) (h : NotR k t) (p : Int) (hp : p ≠ 3) : (if brk p t.kind = true then 8 - k + 1 else 8 - k) ≤ 8 ∧ mayT (if brk p t.kind = true then 8 - k + 1 else 8 - k) t = true := by
  rcases h with ⟨h1, h2⟩ | ⟨h1, h2, h3⟩
  · have hb : brk p t.kind = false := by unfold brk; rcases h1 with h1 | h1 <;> rw [h1] <;> simp
    rw [hb]; exact ⟨by simp, h2⟩
  · have hb : brk p t.kind = true := by unfold brk; rcases h1 with h1 | h1 <;> rw [h1] <;> simp [hp]
    rw [hb]; exact ⟨by simp; omega, h3⟩
set_option maxRecDepth 100000 in
theorem AndR.item {k : Nat} {t : Nd} (hk : k ≤ 8) (h : AndR k t) : (if brk 3 t.kind = true then 8 - k + 1 else 8 - k) ≤ 8 ∧ mayT (if brk 3 t.kind = true then 8 - k + 1 else 8 - k) t = true := by
  rcases h with ⟨h1, h2⟩ | ⟨h1, h2, h3⟩
  · have hb : brk 3 t.kind = false := by unfold brk; rcases h1 with h1 | h1 | h1 <;> rw [h1] <;> simp
    rw [hb]; exact ⟨by simp, h2⟩
  · have hb : brk 3 t.kind = true := by unfold brk; rw [h1]; simp
    rw [hb]; exact ⟨by simp; omega, h3⟩
set_option maxRecDepth 100000 in
theorem join_and {k : Nat} (hk : k ≤ 8) {ps : List Nd} (hp : ps ≠ []) (h : ∀ x ∈ ps, NotR k x) : AndR k (joinN 2 ps) := by
  match ps, hp with
  | [x], _ => exact (h x (by simp)).and
  | x :: y :: l, _ =>
    rw [join_many]
    refine .inl ⟨.inr (.inr rfl), ?_⟩
    rw [mayT, if_neg (by decide), if_neg (by decide), Bool.and_eq_true, mayK_iff]
    exact ⟨by simp, fun z hz => (h z hz).item hk 2 (by decide)⟩
set_option maxRecDepth 100000 in
theorem join_or {k : Nat} (hk : k ≤ 8) {ps : List Nd} (hp : ps ≠ []) (h : ∀ x ∈ ps, AndR k x) : mayT (8 - k) (joinN 3 ps) = true := by
  match ps, hp with
  | [x], _ => exact (h x (by simp)).or
  | x :: y :: l, _ =>
    rw [join_many, mayT, if_neg (by decide), if_neg (by decide), Bool.and_eq_true, mayK_iff]
    exact ⟨by simp, fun z hz => (h z hz).item hk⟩
set_option maxRecDepth 100000 in
theorem and_may (k : Nat) (hk : k ≤ 8) (hn : ∀ l t l', Fit l → notP k l = .ok t l' → NotR k t) : ∀ (n : Nat) (ps : List Nd) (l : List Nat) (t : Nd) (l' : List Nat), l.length ≤ n → Fit l → ps ≠ [] → (∀ x ∈ ps, NotR k x) → andR k ps l = .ok t l' → AndR k t
  | n, ps, l, t, l', hl, hf, hp, hps, h => by
    have hs := skipB_le l
    have hd := List.length_drop (i := 1) (l := skipB l)
    rw [andR_step] at h
    have key : ∀ m, m <:+ l → ((notP k m).bind fun n l' => andR k (ps ++ [n]) l') = .ok t l' → AndR k t := fun m hm h => by
      obtain ⟨a, l1, e1, e2⟩ := bind_ok h
      have h4 := not_less k _ _ _ e1
      have h5 := hm.length_le
      have hfm := hf.suffix hm
      match n, hl with
      | 0, hl => omega
      | n + 1, hl =>
        refine and_may k hk hn n (ps ++ [a]) l1 t l' (by omega) (fit_not k hfm e1) (by simp) ?_ e2
        intro x hx
        rcases List.mem_append.1 hx with hx | hx
        · exact hps x hx
        · simp at hx; subst hx; exact hn _ _ _ hfm e1
    split at h
    · exact key _ ((List.drop_suffix _ _).trans (skip_suffix l)) h
    · split at h
      · exact key _ (skip_suffix l) h
      · injection h with h1 h2
        subst h1
        exact join_and hk hp hps
set_option maxRecDepth 100000 in
theorem and_may' (k : Nat) (hk : k ≤ 8) (hn : ∀ l t l', Fit l → notP k l = .ok t l' → NotR k t) {l : List Nat} {t : Nd} {l' : List Nat} (hf : Fit l) (h : andP (notP k) l = .ok t l') : AndR k t := by
  rw [andP_eq] at h
  obtain ⟨a, l1, e1, e2⟩ := bind_ok h
  exact and_may k hk hn _ [a] l1 t l' (Nat.le_refl _) (fit_not k hf e1) (by simp) (fun x hx => by simp at hx; subst hx; exact hn _ _ _ hf e1) e2
set_option maxRecDepth 100000 in
theorem or_may (k : Nat) (hk : k ≤ 8) (hn : ∀ l t l', Fit l → notP k l = .ok t l' → NotR k t) : ∀ (n : Nat) (ps : List Nd) (l : List Nat) (t : Nd) (l' : List Nat), l.length ≤ n → Fit l → ps ≠ [] → (∀ x ∈ ps, AndR k x) → orR k ps l = .ok t l' → mayT (8 - k) t = true
  | n, ps, l, t, l', hl, hf, hp, hps, h => by
    have hs := skipB_le l
    have hd := List.length_drop (i := 1) (l := skipB l)
    rw [orR_step] at h
    split at h
    · obtain ⟨a, l1, e1, e2⟩ := bind_ok h
      have h4 := and_less (not_less k) _ _ _ e1
      have hfm := hf.suffix ((List.drop_suffix 1 _).trans (skip_suffix l))
      match n, hl with
      | 0, hl => omega
      | n + 1, hl =>
        refine or_may k hk hn n (ps ++ [a]) l1 t l' (by omega) (fit_and k hfm e1) (by simp) ?_ e2
        intro x hx
        rcases List.mem_append.1 hx with hx | hx
        · exact hps x hx
        · simp at hx; subst hx; exact and_may' k hk hn hfm e1
    · injection h with h1 h2
      subst h1
      exact join_or hk hp hps
set_option maxRecDepth 100000 in
theorem or_may' (k : Nat) (hk : k ≤ 8) (hn : ∀ l t l', Fit l → notP k l = .ok t l' → NotR k t) {l : List Nat} {t : Nd} {l' : List Nat} (hf : Fit l) (h : orP (andP (notP k)) l = .ok t l') : mayT (8 - k) t = true := by
  rw [orP_eq] at h
  obtain ⟨a, l1, e1, e2⟩ := bind_ok h
  exact or_may k hk hn _ [a] l1 t l' (Nat.le_refl _) (fit_and k hf e1) (by simp) (fun x hx => by simp at hx; subst hx; exact and_may' k hk hn hf e1) e2
set_option maxRecDepth 100000 in
theorem leaf_may (k : Nat) {l l' : List Nat} {t : Nd} (hf : Fit l) (h : leafP k l = .ok t l') : NotR k t := by
  obtain ⟨_, f, q, rfl, h1, h2, h3, h4⟩ := leaf_parts h
  have := hf.few
  exact .inl ⟨.inl rfl, may_leafNd _ f h1 h2 q (fun r hr => hf.ok r (h3 r hr)) (by omega)⟩
set_option maxRecDepth 100000 in
theorem not_may : ∀ (k : Nat), k ≤ 8 → ∀ (l : List Nat) (t : Nd) (l' : List Nat), Fit l → notP k l = .ok t l' → NotR k t
  | 0, _, l, t, l', hf, h => by
    rw [notP] at h
    split at h
    · cases h
    · exact leaf_may 0 (hf.suffix (skip_suffix l)) h
  | k + 1, hk, l, t, l', hf, h => by
    have hfd := hf.suffix ((List.drop_suffix 1 _).trans (skip_suffix l))
    rw [notP] at h
    split at h
    · obtain ⟨a, e, rfl⟩ := map_ok h
      have hi := (not_may k (by omega) _ _ _ hfd e).item (by omega) 4 (by decide)
      refine .inl ⟨.inr rfl, ?_⟩
      have e8 : 8 - (k + 1) + 1 = 8 - k := by omega
      rw [mayT, if_neg (by decide), if_pos rfl, Bool.and_eq_true, mayK_iff, e8]
      exact ⟨by simp, fun x hx => by simp at hx; subst hx; exact hi⟩
    · split at h
      · obtain ⟨a, l1, e1, e2⟩ := bind_ok h
        have hm := or_may' k (by omega) (not_may k (by omega)) hfd e1
        have e8 : 8 - (k + 1) + 1 = 8 - k := by omega
        have ht : a = t := by
          split at e2
          · injection e2
          · cases e2
        subst ht
        have hkk := mayT_kind hm
        by_cases h14 : a.kind = 1 ∨ a.kind = 4
        · exact .inl ⟨h14, mayT_less _ _ _ (by omega) hm⟩
        · exact .inr ⟨by omega, by omega, by rw [e8]; exact hm⟩
      · exact leaf_may (k + 1) (hf.suffix (skip_suffix l)) h
set_option maxRecDepth 100000 in
theorem opt_may : ∀ (n : Nat) (o : Opt) (l : List Nat) (o' : Opt) (l' : List Nat), l.length ≤ n → 0 ≤ o.lim → o.lim ≤ 64 → (o.ord = 0 ∨ o.ord = 1) → optR o l = .ok o' l' → 0 ≤ o'.lim ∧ o'.lim ≤ 64 ∧ (o'.ord = 0 ∨ o'.ord = 1) ∧ l' = []
  | n, o, l, o', l', hl, h1, h2, h3, h => by
    have hs := skipB_le l
    have hd := List.length_drop (i := 1) (l := skipB l)
    rw [optR_step] at h
    split at h
    · obtain ⟨a, l1, e1, e2⟩ := bind_ok h
      have h4 := limit_less _ _ _ e1
      have h5 := limit_parts e1
      match n, hl with
      | 0, hl => omega
      | n + 1, hl => exact opt_may n ⟨a, true, o.ord, o.ordd⟩ l1 o' l' (by omega) h5.2.1 h5.2.2 h3 e2
    · split at h
      · obtain ⟨a, l1, e1, e2⟩ := bind_ok h
        have h4 := order_less _ _ _ e1
        have h5 := order_parts e1
        match n, hl with
        | 0, hl => omega
        | n + 1, hl => exact opt_may n ⟨o.lim, o.limd, a, true⟩ l1 o' l' (by omega) h1 h2 h5.2 e2
      · split at h
        · injection h with e1 e2; subst e1 e2; exact ⟨h1, h2, h3, rfl⟩
        · cases h
set_option maxRecDepth 100000 in
/-- A query that is read may be. -/
theorem parse_may {l l' : List Nat} {t : Nd} {o : Opt} (hf : Fit l) (h : parseR l = .ok (t, o) l') : mayQ t o.lim o.ord = true ∧ l' = [] := by
  rw [parseR_eq] at h
  obtain ⟨a, l1, e1, e2⟩ := bind_ok h
  obtain ⟨b, e3, e4⟩ := map_ok e2
  injection e4 with e5 e6
  subst e5 e6
  obtain ⟨h1, h2, h3, h4⟩ := opt_may _ _ _ _ _ (Nat.le_refl _) (by decide) (by decide) (.inl rfl) e3
  have hm := or_may' 8 (Nat.le_refl _) (not_may 8 (Nat.le_refl _)) hf e1
  unfold mayQ
  simp only [Bool.and_eq_true, Bool.or_eq_true, decide_eq_true_eq, beq_iff_eq]
  exact ⟨⟨⟨⟨h1, h2⟩, h3⟩, hm⟩, h4⟩
end Go.Proofs.YthkpaelpnofbgaaGreatDoor
