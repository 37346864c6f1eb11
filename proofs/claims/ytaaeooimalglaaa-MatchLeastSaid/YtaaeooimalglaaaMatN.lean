/-
  Layer 18's statement of the least: no phrase is found more often than one of its terms has places. Over the program's own text.
-/
import Derived.Test.YtaaeooimalglaaaMatL
namespace Go.Proofs.Ytaaeooimalglaaa
open Go.RowKit

theorem least_all {T : List Tk} {L : List (List En)} (hm : ∀ l ∈ L, MayE l) {f : Fo} (h : f ∈ phraseN T L) : 0 ≤ f.1 ∧ 1 ≤ f.2 ∧ ∀ l ∈ L, f.2 ≤ ((placesN l f.1).length : Int) := by
  by_cases hb : badT T L
  · rw [phrase_bad hb] at h; cases h
  · rw [phrase_good hb] at h
    obtain ⟨e, he, h0, rfl⟩ := mem_phrase.1 h
    have hlen : T.length = L.length := by
      refine Classical.byContradiction fun h2 => hb (.inr (.inl h2))
    obtain ⟨l0, hl0, he0⟩ : ∃ l0, l0 ∈ L ∧ e ∈ l0 := by
      cases L with
      | nil => simp at he
      | cons l0 L => exact ⟨l0, by simp, he⟩
    refine ⟨(may_mem (hm l0 hl0) he0).1, by show (1 : Int) ≤ ((_ : Nat) : Int); omega, fun l hl => ?_⟩
    have := times_le (T := T) (Ps := L.map (placesN · e.1)) (by rw [List.length_map]; exact hlen) (fun P hP => by
      obtain ⟨l, hl, rfl⟩ := List.mem_map.1 hP
      rcases places_or l e.1 with h3 | ⟨x, hx, _, h3⟩
      · show RiseP (placesN l e.1); rw [h3]; exact List.Pairwise.nil
      · show RiseP (placesN l e.1); rw [h3]; exact up_rise (may_mem (hm l hl) hx).2.2.2.2) (List.mem_map.2 ⟨l, hl, rfl⟩)
    exact Int.ofNat_le.2 this
theorem least_rise {T : List Tk} {L : List (List En)} (hm : ∀ l ∈ L, MayE l) : (phraseN T L).Pairwise fun a b => a.1 < b.1 := by
  by_cases hb : badT T L
  · rw [phrase_bad hb]; exact List.Pairwise.nil
  · rw [phrase_good hb]
    cases L with
    | nil => exact List.Pairwise.nil
    | cons l L => exact phrase_rise (may_rise (hm l (by simp)))
theorem places_len {d : Int} {l : List En} (hm : MayE l) {j : Nat} : (placesN (l.take j) d).length ≤ 256 := by
  rcases places_or (l.take j) d with h | ⟨e, he, _, h⟩
  · rw [h]; simp
  · rw [h]; exact (may_mem hm (List.mem_of_mem_take he)).2.2.2.1
set_option maxRecDepth 100000 in
set_option maxHeartbeats 8000000 in
theorem least18 (W : World) (ta la : Option Addr) (tc lc m k : Nat) (T : List Tk) (L : List (List En)) (hT : ReadT W ta T) (hm : m = T.length) (hL : ReadEs W la L) (hk : k = L.length) :
    Calls Try.prog 7 #[.slice ta m tc, .slice la k lc] W fun e w' => e = .returned (.bool true) ∧ Below W.heap.size W w' := by
  have HR := Lib.hid (right_any W ta la tc lc m k L hL hk)
  have HT := Lib.hid (And.intro hT hm)
  have HL := Lib.hid (And.intro hL hk)
  clear hT hm hL hk
  go_enter Try.func7, Try.ntmps7
  go_wp2_with fail
  refine HR.out.mono ?_
  rintro e w1 ⟨⟨b, rfl, hb⟩, hb1⟩
  have HB1 := Lib.hid hb1
  clear hb1
  cases b with
  | false =>
    have HF := Lib.hid (fixed18 w1)
    clear hb
    go_wp2_with fail
    refine HF.out.mono ?_
    rintro e w2 ⟨rfl, hb2⟩
    have HB2 := Lib.hid (low_more HB1.out hb2)
    clear hb2
    go_wp2_with fail
    go_ret
    exact ⟨rfl, HB2.out⟩
  | true =>
    have HOk := Lib.hid (hb rfl)
    clear hb HR
    have hm20 : m ≤ 20 := HOk.out.1
    have hk20 : k ≤ 20 := HOk.out.2.1
    have HPf := Lib.hid (phrase_any w1 ta la tc lc m k T L (HT.out.1.below HB1.out) HT.out.2 (ReadEs.below HL.out.1 HB1.out) HL.out.2 (by omega) (by omega) HOk.out.2.2)
    go_wp2_with fail
    refine HPf.out.mono ?_
    rintro e w2 ⟨v, rfl, hv, hb2⟩
    have HB2 := Lib.hid (low_more HB1.out hb2)
    have HAll := Lib.hid (show (∀ f ∈ phraseN T L, 0 ≤ f.1 ∧ 1 ≤ f.2 ∧ ∀ l ∈ L, f.2 ≤ ((placesN l f.1).length : Int)) ∧ (phraseN T L).Pairwise (fun a b => a.1 < b.1) from ⟨fun f hf => least_all HOk.out.2.2 hf, least_rise HOk.out.2.2⟩)
    have hfew := phrase_few HOk.out (T := T)
    obtain ⟨va, vc, rfl, _, _, _, hvr⟩ := hv.reads
    obtain ⟨B, hB⟩ : ∃ B, B = phraseN T L := ⟨_, rfl⟩
    rw [← hB] at HAll hfew hvr ⊢
    obtain ⟨bn, hbn⟩ : ∃ bn, bn = B.length := ⟨_, rfl⟩
    rw [← hbn] at hfew ⊢
    have HVr := Lib.hid (And.intro hvr hbn)
    clear hB hbn hvr hv hb2 HPf HB1
    go_wp2_with fail
    go_loopg [5, 22] bn (fun g s5 s22 wr => ∃ (i : Nat) (ws : Int), i + g = bn ∧ s22 = .int .i64 (i : Int) ∧ s5 = .int .i64 ws ∧ Hid (∀ (j : Nat) (f : Fo), i ≤ j → B[j]? = some f → ws < f.1) ∧ Hid (Below W.heap.size W wr ∧ Below w2.heap.size w2 wr))
    case atStart => exact ⟨0, -1, by omega, rfl, rfl, Lib.hid fun j f _ hf => by have := (HAll.out.1 f (List.mem_of_getElem? hf)).1; omega, Lib.hid ⟨HB2.out, Below.refl _ _⟩⟩
    case round =>
      clear HB2
      obtain ⟨i, ws, hig, rfl, rfl, HWs, HB⟩ := hrel
      cases gk with
      | zero =>
        have HF := Lib.hid (fixed18 wr)
        go_wp2_with fail
        refine HF.out.mono ?_
        rintro e w8 ⟨rfl, hb8⟩
        have HB8 := Lib.hid (low_more HB.out.1 hb8)
        clear hb8
        go_wp2_with fail
        go_ret
        exact ⟨rfl, HB8.out⟩
      | succ g =>
        have hlt : i < bn := by omega
        obtain ⟨f, hf⟩ : ∃ f, B[i]? = some f := ⟨_, List.getElem?_eq_getElem (by rw [← HVr.out.2]; exact hlt)⟩
        obtain ⟨gv, ov, rfl, v0, v1⟩ := HVr.out.1 i f hf
        have d0 := below_cell v0 HB.out.2
        have d1 := below_cell v1 HB.out.2
        have hws := HWs.out i f (Nat.le_refl _) hf
        have hone := (HAll.out.1 f (List.mem_of_getElem? hf)).2.1
        have HLe := Lib.hid ((HAll.out.1 f (List.mem_of_getElem? hf)).2.2)
        have HWn := Lib.hid (show ∀ (j : Nat) (x : Fo), i + 1 ≤ j → B[j]? = some x → f.1 < x.1 from fun j x hj hx => by
          have := HAll.out.2
          rw [List.pairwise_iff_getElem] at this
          obtain ⟨q1, q2⟩ := List.getElem?_eq_some_iff.1 hf
          obtain ⟨q3, q4⟩ := List.getElem?_eq_some_iff.1 hx
          have := this i j q1 q3 (by omega)
          rwa [q2, q4] at this)
        obtain ⟨fd, ft⟩ := f
        simp only at d0 d1 hws hone HLe HWn
        have hlti : (i : Int) < (bn : Int) := by omega
        have hw1 : ¬ fd ≤ ws := by omega
        have hw2 : ¬ ft < 1 := by omega
        clear v0 v1 hf HWs
        go_upto_region 7 with fail
        have hb2 : Below wr.heap.size wr (wr.alloc (.cells #[.int .i64 fd, .int .i64 ft] 44)) := below_one
        have HBn := Lib.hid (show Below W.heap.size W (wr.alloc (.cells #[.int .i64 fd, .int .i64 ft] 44)) ∧ Below w2.heap.size w2 (wr.alloc (.cells #[.int .i64 fd, .int .i64 ft] 44)) ∧ (wr.alloc (.cells #[.int .i64 fd, .int .i64 ft] 44)).heap[wr.heap.size]? = some (.cells #[.int .i64 fd, .int .i64 ft] 44 (0, 0)) from ⟨low_more HB.out.1 hb2, low_more HB.out.2 hb2, heap_alloc_new _ _⟩)
        clear d0 d1 hb2 HB
        generalize wr.heap.size = bf at HBn ⊢
        generalize wr.alloc (.cells #[.int .i64 fd, .int .i64 ft] 44) = w8 at HBn ⊢
        clear wr
        have q0 := cell_at HBn.out.2.2 0
        have q1 := cell_at HBn.out.2.2 1
        simp only [List.getElem?_toArray, List.getElem?_cons_zero, List.getElem?_cons_succ] at q0 q1
        go_wp2_with fail
        clear q0 q1
        go_loopg [39] k (fun g2 s39 wy => ∃ j : Nat, j + g2 = k ∧ s39 = .int .i64 (j : Int) ∧ Hid (Below w8.heap.size w8 wy))
        case atStart => exact ⟨0, by omega, rfl, Lib.hid (Below.refl _ _)⟩
        case round =>
          obtain ⟨j, hjg, rfl, HY⟩ := hrel
          cases gk with
          | zero =>
            have HZ := Lib.hid (And.intro (low_more HBn.out.1 HY.out) (low_more HBn.out.2.1 HY.out))
            go_wp2_with fail
            go_roundg g
            case measure => omega
            case rel => exact ⟨i + 1, fd, by omega, by go_num, rfl, HWn, HZ⟩
          | succ g2 =>
            have hltj : j < k := by omega
            obtain ⟨l, hl⟩ : ∃ l, L[j]? = some l := ⟨_, List.getElem?_eq_getElem (by rw [← HL.out.2]; exact hltj)⟩
            obtain ⟨g0, o0, rfl, p, k0, pa, pc, rfl, _, _, _, hre⟩ := HL.out.1 j l hl
            have hmay := HOk.out.2.2 l (List.mem_of_getElem? hl)
            have hle := HLe.out l (List.mem_of_getElem? hl)
            have c0 := below_cell k0 (low_more HBn.out.1 HY.out)
            obtain ⟨N, hN⟩ : ∃ N, N = l.length := ⟨_, rfl⟩
            have hN64 : N ≤ 64 := by have := hmay.1; omega
            have HLl := Lib.hid (show ReadE W pa l ∧ MayE l ∧ N = l.length ∧ ft ≤ ((placesN l fd).length : Int) from ⟨hre, hmay, hN, hle⟩)
            rw [← hN] at c0
            have hltji : (j : Int) < (k : Int) := by omega
            clear k0 hl hre hmay hle hN
            go_wp2_with fail
            clear c0
            go_loopg [10, 45] N (fun g3 s10 s45 wz => ∃ a : Nat, a + g3 = N ∧ s45 = .int .i64 (a : Int) ∧ s10 = .int .i64 ((placesN (l.take a) fd).length : Int) ∧ Hid (Below w8.heap.size w8 wz))
            case atStart => exact ⟨0, by omega, rfl, by simp [placesN], HY⟩
            case round =>
              clear HY
              obtain ⟨a, hag, rfl, rfl, HY⟩ := hrel
              have hpl := places_len (d := fd) HLl.out.2.1 (j := a)
              cases gk with
              | zero =>
                have haN : N = a := by omega
                have hfin : ¬ ((placesN (l.take a) fd).length : Int) < ft := by
                  have := HLl.out.2.2.2
                  rw [List.take_of_length_le (by rw [← HLl.out.2.2.1]; omega)]
                  omega
                generalize (placesN (l.take a) fd).length = pn at hfin hpl ⊢
                have r1 : wr.cell? ⟨bf, 1, none⟩ = some (.int .i64 ft) := cell_at (blk_keep HBn.out.2.2 HY.out) 1
                go_wp2_with fail
                go_roundg g2
                case measure => omega
                case rel => exact ⟨j + 1, by omega, by go_num, HY⟩
              | succ g3 =>
                have hlta : a < N := by omega
                obtain ⟨e, he⟩ : ∃ e, l[a]? = some e := ⟨_, List.getElem?_eq_getElem (by rw [← HLl.out.2.2.1]; exact hlta)⟩
                obtain ⟨ge, oe, rfl, z0, z, z1, qa, qc, rfl, _⟩ := HLl.out.1 a e he
                have c0 := below_cell z0 (low_more HBn.out.1 HY.out)
                have c1 := below_cell z1 (low_more HBn.out.1 HY.out)
                have HPt := Lib.hid (places_take (may_rise HLl.out.2.1) he fd)
                obtain ⟨ed, hed⟩ : ∃ ed, ed = e.1 := ⟨_, rfl⟩
                obtain ⟨en, hen⟩ : ∃ en, en = e.2.length := ⟨_, rfl⟩
                rw [← hed] at c0 HPt
                rw [← hen] at c1
                have HEn := Lib.hid hen
                have hltai : (a : Int) < (N : Int) := by omega
                have r0 : (wr.alloc (.cells #[.int .i64 ed, .slice qa en qc] 46)).cell? ⟨bf, 0, none⟩ = some (.int .i64 fd) := cell_at (blk_keep (blk_keep HBn.out.2.2 HY.out) below_one) 0
                have HZ := Lib.hid (low_more HY.out (below_one (w := wr) (A := .cells #[.int .i64 ed, .slice qa en qc] 46)))
                clear z0 z1 he hed hen
                by_cases hef : ed = fd
                · have HPu := Lib.hid (show (placesN (l.take (a + 1)) fd).length = en by rw [HPt.out, if_pos hef, HEn.out])
                  subst hef
                  go_wp2_with fail
                  go_roundg g3
                  case measure => omega
                  case rel => exact ⟨a + 1, by omega, by go_num, by rw [HPu.out], HZ⟩
                · have HPu := Lib.hid (show (placesN (l.take (a + 1)) fd).length = (placesN (l.take a) fd).length by rw [HPt.out, if_neg hef])
                  have hxb : (ed == fd) = false := beq_eq_false_iff_ne.2 hef
                  go_wp2_with fail
                  go_roundg g3
                  case measure => omega
                  case rel => exact ⟨a + 1, by omega, by go_num, by rw [HPu.out], HZ⟩
end Go.Proofs.Ytaaeooimalglaaa
