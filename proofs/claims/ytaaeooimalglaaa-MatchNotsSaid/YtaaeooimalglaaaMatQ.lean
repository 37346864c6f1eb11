/-
  Layer 18's statement of Ands and Ors. Over the program's own text.
-/
import Derived.Test.YtaaeooimalglaaaMatP
import Derived.Deep.AppendLies
namespace Go.Proofs.Ytaaeooimalglaaa
open Go.RowKit

theorem four_at {w : World} {g : Nat} {a b c d : Value} {t : TypeId} (h : w.heap[g]? = some (.cells #[a, b, c, d] t (0, 0))) : ∀ (j : Nat) (u : Value), [a, b, c, d][j]? = some u → w.cell? ((⟨g, 0, none⟩ : Addr).add j) = some u := by
  intro j u hj
  rw [Addr.add_lit, Nat.zero_add, cell_at h j]
  simpa using hj
/-- The row of Nots so far, which none of its trees has. -/
structure NtAt (W w : World) (ks : List Nd) (i : Nat) (v : Value) (rsn : List Rn) : Prop where
  low : Below W.heap.size W w
  row : NodesIn w W.heap.size v rsn
  rd : RdNs w (fun b => v.ownBlock ≠ some b) (notsN (ks.take i)) rsn
  len : rsn.length = i
theorem nots_snoc {ks : List Nd} {i : Nat} {x : Nd} (h : ks[i]? = some x) : notsN (ks.take (i + 1)) = notsN (ks.take i) ++ [.mk 4 0 [] [x]] := by
  unfold notsN
  rw [take_snoc_nd h, List.map_append]
  rfl
theorem NtAt.more {W w w5 w6 : World} {ks : List Nd} {i : Nat} {v : Value} {rsn : List Rn} {x : Nd} {r : Rn} {g cap gk : Nat} (h : NtAt W w ks i v rsn) (hx : ks[i]? = some x) (hr : RdN W (fun _ => True) x r) (hb : Below w.heap.size w w5) (hk : w5.heap[gk]? = some (.cells (rnC r).toArray 31 (0, 0))) (hgk : w.heap.size ≤ gk)
    (ho : w6.ownsRow W.heap.size 31 4 (.slice (some ⟨g, 0, none⟩) (rsn.length + 1) cap) (rsn.length + 1) (rnsC rsn ++ [.int .i64 4, .int .u8 0, .slice none 0 0, .slice (some ⟨gk, 0, none⟩) 1 1])) (hg : w5.grownBy w6 v.ownBlock) (hgb : v.ownBlock = some g ∨ g = w5.heap.size) :
    NtAt W w6 ks (i + 1) (.slice (some ⟨g, 0, none⟩) (rsn.length + 1) cap) (rsn ++ [(4, 0, .slice none 0 0, .slice (some ⟨gk, 0, none⟩) 1 1)]) := by
  have hlow5 := low_more h.low hb
  have hlt : ∀ k, v.ownBlock = some k → W.heap.size ≤ k ∧ k < w.heap.size := fun k hk => World.ownsRow.lt h.row k hk
  have hs := hb.size
  have hgl := lt_of_heap hk
  have hkeep : ∀ b, v.ownBlock ≠ some b → b < w5.heap.size → w6.heap[b]? = w5.heap[b]? := fun b hb hb2 => hg.block b hb2 (Ne.symm hb)
  refine ⟨hlow5.grown hg hlow5.size (fun k hk => (hlt k hk).1), ?_, ?_, by rw [List.length_append, h.len]; rfl⟩
  · unfold NodesIn
    rw [rnsC_append, List.length_append]
    simpa [rnsC, rnC] using ho
  · rw [nots_snoc hx]
    refine RdNs.snoc ?_ ?_
    · refine RdNs.mono (S := fun b => v.ownBlock ≠ some b ∧ b < w5.heap.size) (fun b _ hb => fun e => ?_) (RdNs.keep (w := w5) (fun b hb hb2 => hkeep b hb.1 hb2) ?_)
      · have e : g = b := Option.some.inj e
        rcases hgb with hgb | hgb
        · exact hb.1 (by rw [hgb, e])
        · omega
      · refine (RdNs.keep (w := w) (w' := w5) (S := fun b => v.ownBlock ≠ some b ∧ b < w5.heap.size) (fun b _ hb2 => hb.block b hb2) (h.rd.mono fun b hb2 hb3 => ⟨hb3, by omega⟩))
    · have hx5 : RdN w5 (fun b => b < W.heap.size) x r := (hr.mono fun b h1 _ => h1).after hlow5
      have ht := turned (S' := fun b => v.ownBlock ≠ some b ∧ b < w5.heap.size) hx5 hk (fun b hb2 => ⟨fun e => by have := (hlt b e).1; omega, by have := hlow5.size; omega⟩) ⟨fun e => by have := (hlt gk e).2; omega, hgl⟩
      refine RdN.mono (S := fun b => v.ownBlock ≠ some b ∧ b < w5.heap.size) (ht.keep fun b hb2 hb3 => hkeep b hb2.1 hb3) (fun b _ hb2 => fun e => ?_)
      have e : g = b := Option.some.inj e
      rcases hgb with hgb | hgb
      · exact hb2.1 (by rw [hgb, e])
      · omega
theorem few_nots {ks : List Nd} (hl : ks.length ≤ 1000000) (h : ∀ x ∈ ks, FewN x) (k : Int) : FewN (.mk k 0 [] (notsN ks)) := .mk (by simp) (by unfold notsN; rw [List.length_map]; exact hl) fun y hy => by
  obtain ⟨x, hx, rfl⟩ := List.mem_map.1 hy
  exact few_not (h x hx)
theorem few_kids {k f : Int} {ts : List Tk} {ks : List Nd} (h : FewN (.mk k f ts ks)) : ks.length ≤ 1000000 ∧ ∀ x ∈ ks, FewN x := by
  cases h with
  | mk h1 h2 h3 => exact ⟨h2, h3⟩
/-- A node of kids that came in. -/
theorem kids_node {w : World} {ks : List Nd} {rs : List Rn} {ka : Option Addr} {kc : Nat} (k : Int) (hk : ReadR w ka rs) (hkl : ks.length ≤ kc) (hkm : kc ≤ maxLen) (hl : rs.length = ks.length) (hr : ∀ (j : Nat) x r, ks[j]? = some x → rs[j]? = some r → RdN w (fun _ => True) x r) : RdN w (fun _ => True) (.mk k 0 [] ks) (k, 0, .slice none 0 0, .slice ka ks.length kc) :=
  RdN.mk (ta := none) (tc := 0) (ts := []) (by decide) (by decide) (fun j y hj => by simp at hj) (Nat.le_refl _) (by decide) (fun a ha => by cases ha) hk hkl hkm (fun _ _ _ => trivial) hl hr
set_option maxRecDepth 100000 in
set_option maxHeartbeats 16000000 in
theorem either18 (W : World) (ka : Option Addr) (kc m : Nat) (ks : List Nd) (rs : List Rn) (v lv : Value) (docs : List Int) (L : List (List Fo)) (hk : ReadR W ka rs) (hm : m = ks.length) (hkl : m ≤ kc) (hkm : kc ≤ maxLen) (hl : rs.length = ks.length) (hr : ∀ (j : Nat) x r, ks[j]? = some x → rs[j]? = some r → RdN W (fun _ => True) x r) (hre : ∀ x ∈ ks, ReachN x) (hmr : m ≤ reachBytes)
    (hv : RdP W v docs) (hlv : LvsAt W lv L) (hll : ∀ l ∈ L, l.length ≤ reachBytes) :
    Calls Try.prog 5 #[.slice ka m kc, v, lv] W fun e w' => e = .returned (.bool true) ∧ Below W.heap.size W w' := by
  have hnode : ∀ k : Int, RdN W (fun _ => True) (.mk k 0 [] ks) (k, 0, .slice none 0 0, .slice ka m kc) := fun k => by rw [hm]; exact kids_node k hk (by omega) hkm hl hr
  have HNode := Lib.hid hnode
  have HGr := Lib.hid (show Calls Try.prog 13 #[.agg #[.int .i64 0, .int .u8 0, .slice none 0 0, .slice ka m kc]] W fun e w' => GreatDone (.mk 0 0 [] ks) W e w' from
    great_any W _ (.mk 0 0 [] ks) (0, 0, .slice none 0 0, .slice ka m kc) (hnode 0) (.mk (by simp) (by simp) (by rw [← hm]; exact hmr) hre))
  have HRi := Lib.hid (fun wx (hb : Below W.heap.size W wx) => risen_any wx v lv docs L (RdP.below hv hb) (hlv.below hb) hll)
  have HIn := Lib.hid (And.intro hv (And.intro hlv (And.intro hk (And.intro hr (And.intro hl hm)))))
  obtain ⟨va, vn, vc, rfl⟩ : ∃ va vn vc, v = .slice va vn vc := by
    obtain ⟨va, vc, h, _⟩ := hv
    exact ⟨va, _, vc, h⟩
  obtain ⟨la, ln, lc, rfl⟩ : ∃ la ln lc, lv = .slice la ln lc := by
    obtain ⟨la, lc, h, _⟩ := hlv
    exact ⟨la, _, lc, h⟩
  clear hnode hk hm hkl hkm hl hr hre hmr hv hlv hll
  go_enter Try.func5, Try.ntmps5
  go_wp2_with fail
  refine HGr.out.mono ?_
  rintro e w1 ⟨⟨b, rfl, hb⟩, hb1⟩
  have HB1 := Lib.hid hb1
  clear hb1 HGr
  cases b with
  | true =>
    have HF := Lib.hid (fixed18 w1)
    clear hb
    go_wp2_with fail
    refine HF.out.mono ?_
    rintro e w2 ⟨rfl, hb2⟩
    have HB2 := Lib.hid (low_more HB1.out hb2)
    clear hb2
    go_wp2_with fail
    go_ret
    exact ⟨rfl, HB2.out⟩
  | false =>
    have HFew := Lib.hid (few_kids (hb rfl))
    clear hb
    go_wp2_with fail
    refine (HRi.out w1 HB1.out).mono ?_
    rintro e w2 ⟨⟨b, rfl, hb⟩, hb2⟩
    have HB2 := Lib.hid (low_more HB1.out hb2)
    clear hb2 HRi
    cases b with
    | false =>
      have HF := Lib.hid (fixed18 w2)
      clear hb
      go_wp2_with fail
      refine HF.out.mono ?_
      rintro e w3 ⟨rfl, hb3⟩
      have HB3 := Lib.hid (low_more HB2.out hb3)
      clear hb3
      go_wp2_with fail
      go_ret
      exact ⟨rfl, HB3.out⟩
    | true =>
      have HOk := Lib.hid (hb rfl)
      clear hb
      obtain ⟨iN, hi0, hz0, hz1, hz2⟩ := info_parts info_node
      have HIN := Lib.hid (And.intro hi0 (And.intro hz0 (And.intro hz1 hz2)))
      have hm6 : m ≤ 1000000 := by rw [HIn.out.2.2.2.2.2]; exact HFew.out.1
      have HN0 := Lib.hid (show NtAt W w2 ks 0 (.slice none 0 0) [] from ⟨HB2.out, World.ownsRow_nil _ _ _ _, ⟨rfl, fun j y r h1 h2 => by simp at h2⟩, rfl⟩)
      clear hi0 hz0 hz1 hz2
      go_wp2_with fail
      go_loopg [7, 28] m (fun g s7 s28 wr => ∃ (i : Nat) (nv : Value) (rsn : List Rn), i + g = m ∧ s28 = .int .i64 (i : Int) ∧ nv = s7 ∧ Hid (NtAt W wr ks i nv rsn))
      case atStart => exact ⟨0, _, [], by omega, rfl, rfl, HN0⟩
      case round =>
        clear HN0 HB2 HB1
        obtain ⟨i, nv, rsn, hig, rfl, rfl, HN⟩ := hrel
        cases gk with
        | succ g =>
          have hlt : i < m := by omega
          obtain ⟨x, hx⟩ : ∃ x, ks[i]? = some x := ⟨_, List.getElem?_eq_getElem (by rw [← HIn.out.2.2.2.2.2]; exact hlt)⟩
          obtain ⟨ri, hri⟩ : ∃ ri, rs[i]? = some ri := ⟨_, List.getElem?_eq_getElem (by rw [HIn.out.2.2.2.2.1, ← HIn.out.2.2.2.2.2]; exact hlt)⟩
          obtain ⟨g0, o0, rfl, hca⟩ := HIn.out.2.2.1 i ri hri
          have hrd := HIn.out.2.2.2.1 i x ri hx hri
          obtain ⟨k5, f5, tv5, kv5⟩ := ri
          obtain ⟨ta5, tn5, tc5, ka5, kn5, kc5, rfl, rfl⟩ := hrd.slices
          have c0 := below_cell (hca 0 _ rfl) HN.out.low
          have c1 := below_cell (hca 1 _ rfl) HN.out.low
          have c2 := below_cell (hca 2 _ rfl) HN.out.low
          have c3 := below_cell (hca 3 _ rfl) HN.out.low
          rw [Nat.add_zero] at c0
          have HX := Lib.hid (And.intro hx hrd)
          have hlti : (i : Int) < (m : Int) := by omega
          have hln := HN.out.len
          clear hx hri hca hrd
          have hrl : rsn.length ≤ 1000000 := by omega
          have HB := Lib.hid (show Below wr.heap.size wr (((wr.alloc (.cells #[.int .i64 k5, .int .u8 f5, .slice ta5 tn5 tc5, .slice ka5 kn5 kc5] 31)).alloc (.cells #[.int .i64 k5, .int .u8 f5, .slice ta5 tn5 tc5, .slice ka5 kn5 kc5] 31)).alloc (.cells #[.int .i64 4, .int .u8 0, .slice none 0 0, .slice (some ⟨wr.heap.size + 1, 0, none⟩) 1 1] 31)) from below_al3)
          have HK := Lib.hid (heap3_1 wr (.cells #[.int .i64 k5, .int .u8 f5, .slice ta5 tn5 tc5, .slice ka5 kn5 kc5] 31) (.cells #[.int .i64 k5, .int .u8 f5, .slice ta5 tn5 tc5, .slice ka5 kn5 kc5] 31) (.cells #[.int .i64 4, .int .u8 0, .slice none 0 0, .slice (some ⟨wr.heap.size + 1, 0, none⟩) 1 1] 31))
          go_wp2_with (at_builtin; go_loud (refine wpList_append_lies _ rfl (.tmp 32) (.tmp 36) 29 rfl W.heap.size 31 iN _ 4 64 Try.underlying29 HIN.out.1 HIN.out.2.1 HIN.out.2.2.1 HIN.out.2.2.2 rfl (by decide) _ rsn.length (rnsC rsn) rfl (World.ownsRow.alloc (World.ownsRow.alloc (World.ownsRow.alloc HN.out.row _) _) _) ⟨_, 0, none⟩ 1 1 [.int .i64 4, .int .u8 0, .slice none 0 0, .slice (some ⟨wr.heap.size + 1, 0, none⟩) 1 1] rfl rfl (four_at (heap3_2 wr _ _ _)) (by simp [Value.oneCell']) (by decide) (by unfold maxLen; omega) (by omega) (by have := HN.out.low.size; simp; omega) _ rfl ?_; intro g7 cap7 w7 ho7 hg7 hgb7 _; have HN7 := Lib.hid (NtAt.more HN.out HX.out.1 HX.out.2 HB.out HK.out (by omega) ho7 hg7 hgb7); clear ho7 hg7 hgb7))
          go_roundg g
          case measure => omega
          case rel => exact ⟨i + 1, _, _, by omega, by go_num, rfl, Lib.hid (by have h := HN7.out; rw [hln] at h; exact h)⟩
        | zero =>
          have him : m = i := by omega
          subst him
          have hln := HN.out.len
          obtain ⟨na, nc, hnv, hnl, hnm, hnr, hnb⟩ := nodes_reads HN.out.row
          rw [hln] at hnv hnl
          have HNf := Lib.hid (show ∀ k : Int, RdN wr (fun _ => True) (.mk k 0 [] (notsN ks)) (k, 0, .slice none 0 0, .slice na m nc) from fun k => by
            have e1 : ks.take m = ks := List.take_of_length_le (by rw [← HIn.out.2.2.2.2.2]; exact Nat.le_refl _)
            have h := HN.out.rd
            rw [e1] at h
            have hl2 : (notsN ks).length = m := by unfold notsN; rw [List.length_map, ← HIn.out.2.2.2.2.2]
            rw [← hl2]
            exact kids_node k hnr (by omega) hnm h.1 (fun j x r h1 h2 => (h.2 j x r h1 h2).mono fun _ _ _ => trivial))
          have HLow := Lib.hid HN.out.low
          have HEv := Lib.hid (show ∀ (wy : World) (x : Nd) (k : Int) (kv : Value), Below W.heap.size W wy → RdN wy (fun _ => True) x (k, 0, .slice none 0 0, kv) → FewN x → Calls Try.prog 15 #[.agg #[.int .i64 k, .int .u8 0, .slice none 0 0, kv], .slice va vn vc, .slice la ln lc] wy fun e w' => ∃ u, e = .returned u ∧ OwnZ w' wy.heap.size u (docs.filter (semN x L)) ∧ Below wy.heap.size wy w' from fun wy x k kv hb hx hf =>
            eval_any wy _ x (k, 0, .slice none 0 0, kv) _ _ docs L hx hf (RdP.below HIn.out.1 hb) (HIn.out.2.1.below hb) HOk.out.docs HOk.out.lists (by have := HOk.out.few; omega))
          have hd6 : docs.length ≤ 1000000 := by have := HOk.out.few; omega
          subst hnv
          clear hln hnl hnm hnr hnb HN HIN
          go_upto_region 10 with fail
          have hq0 := heap2_0 wr (.cells #[.int .i64 2, .int .u8 0, .slice none 0 0, .slice ka m kc] 31) (.cells #[.int .i64 3, .int .u8 0, .slice none 0 0, .slice ka m kc] 31)
          have hq1 := heap2_1 wr (.cells #[.int .i64 2, .int .u8 0, .slice none 0 0, .slice ka m kc] 31) (.cells #[.int .i64 3, .int .u8 0, .slice none 0 0, .slice ka m kc] 31)
          have HQ := Lib.hid (And.intro hq0 (And.intro hq1 (below_al2 (w := wr) (A := .cells #[.int .i64 2, .int .u8 0, .slice none 0 0, .slice ka m kc] 31) (B := .cells #[.int .i64 3, .int .u8 0, .slice none 0 0, .slice ka m kc] 31))))
          clear hq0 hq1
          generalize hgb : wr.heap.size = gb at HQ ⊢
          rw [← hgb] at HQ
          have HGb := Lib.hid hgb
          have HX3 := Lib.hid (show Below wr.heap.size wr ((wr.alloc (.cells #[.int .i64 2, .int .u8 0, .slice none 0 0, .slice ka m kc] 31)).alloc (.cells #[.int .i64 3, .int .u8 0, .slice none 0 0, .slice ka m kc] 31)) from HQ.out.2.2)
          generalize (wr.alloc (.cells #[.int .i64 2, .int .u8 0, .slice none 0 0, .slice ka m kc] 31)).alloc (.cells #[.int .i64 3, .int .u8 0, .slice none 0 0, .slice ka m kc] 31) = w3 at HQ HX3 ⊢
          have c0 := cell_at HQ.out.1 0
          have c1 := cell_at HQ.out.1 1
          have c2 := cell_at HQ.out.1 2
          have c3 := cell_at HQ.out.1 3
          simp only [List.getElem?_toArray, List.getElem?_cons_zero, List.getElem?_cons_succ] at c0 c1 c2 c3
          rw [hgb] at c0 c1 c2 c3
          have HW3 := Lib.hid (low_more HLow.out HX3.out)
          clear hgb
          have HT1 := Lib.hid (turned ((HNode.out 2).after (low_more HW3.out (below_one (w := w3) (A := .cells #[.int .i64 2, .int .u8 0, .slice none 0 0, .slice ka m kc] 31)))) (heap_alloc_new w3 (.cells #[.int .i64 2, .int .u8 0, .slice none 0 0, .slice ka m kc] 31)) (fun _ h => h) trivial)
          go_wp2_with fail
          refine (HEv.out _ _ 4 _ (low_more HW3.out below_one) HT1.out (few_not (.mk (by simp) HFew.out.1 HFew.out.2))).mono ?_
          rintro e w4 ⟨u1, rfl, hu1, hb4⟩
          rw [not_and] at hu1
          have hb43 := low_more below_one hb4
          have HU1 := Lib.hid hu1.reads
          have HW4 := Lib.hid (And.intro (low_more HW3.out hb43) (low_more HX3.out hb43))
          have HQ4 := Lib.hid (blk_keep HQ.out.2.1 hb43)
          clear hu1 hb4 hb43 c0 c1 c2 c3 HT1
          go_wp2_with fail
          refine (HEv.out _ _ 3 _ HW4.out.1 ((HNf.out 3).after HW4.out.2) (few_nots HFew.out.1 HFew.out.2 3)).mono ?_
          rintro e w5 ⟨u2, rfl, hu2, hb5⟩
          have HU12 := Lib.hid (And.intro (RdP.below HU1.out hb5) hu2.reads)
          have HW5 := Lib.hid (And.intro (low_more HW4.out.1 hb5) (low_more HW4.out.2 hb5))
          have HQ5 := Lib.hid (blk_keep HQ4.out hb5)
          clear hu2 hb5 HU1 HQ4 HW4
          have c0 := cell_at HQ5.out 0
          have c1 := cell_at HQ5.out 1
          have c2 := cell_at HQ5.out 2
          have c3 := cell_at HQ5.out 3
          simp only [List.getElem?_toArray, List.getElem?_cons_zero, List.getElem?_cons_succ] at c0 c1 c2 c3
          rw [HGb.out] at c0 c1 c2 c3
          have HT2 := Lib.hid (turned ((HNode.out 3).after (low_more HW5.out.1 (below_one (w := w5) (A := .cells #[.int .i64 3, .int .u8 0, .slice none 0 0, .slice ka m kc] 31)))) (heap_alloc_new w5 (.cells #[.int .i64 3, .int .u8 0, .slice none 0 0, .slice ka m kc] 31)) (fun _ h => h) trivial)
          go_wp2_with fail
          refine (HEv.out _ _ 4 _ (low_more HW5.out.1 below_one) HT2.out (few_not (.mk (by simp) HFew.out.1 HFew.out.2))).mono ?_
          rintro e w6 ⟨u3, rfl, hu3, hb6⟩
          rw [not_or] at hu3
          have hb65 := low_more below_one hb6
          have HU13 := Lib.hid (And.intro (RdP.below HU12.out.1 hb65) (And.intro (RdP.below HU12.out.2 hb65) hu3.reads))
          have HW6 := Lib.hid (And.intro (low_more HW5.out.1 hb65) (low_more HW5.out.2 hb65))
          clear hu3 hb6 hb65 c0 c1 c2 c3 HT2 HU12 HW5 HQ5
          go_wp2_with fail
          refine (HEv.out _ _ 2 _ HW6.out.1 ((HNf.out 2).after HW6.out.2) (few_nots HFew.out.1 HFew.out.2 2)).mono ?_
          rintro e w7 ⟨u4, rfl, hu4, hb7⟩
          have HU := Lib.hid (And.intro (And.intro (RdP.below HU13.out.1 hb7) (RdP.below HU13.out.2.1 hb7)) (And.intro (RdP.below HU13.out.2.2 hb7) (show RdP w7 u4 _ from hu4.reads)))
          have HW7 := Lib.hid (low_more HW6.out.1 hb7)
          have HF := Lib.hid (fixed18 w7)
          clear hu4 hb7 HU13 HW6
          go_wp2_with fail
          refine HF.out.mono ?_
          rintro e w8 ⟨rfl, hb8⟩
          have HU8 := Lib.hid (And.intro (And.intro (RdP.below HU.out.1.1 hb8) (RdP.below HU.out.1.2 hb8)) (And.intro (RdP.below HU.out.2.1 hb8) (RdP.below HU.out.2.2 hb8)))
          have HW8 := Lib.hid (low_more HW7.out hb8)
          clear hb8 HU HW7 HF
          go_wp2_with fail
          refine (same_ints w8 u1 u2 _ HU8.out.1.1 HU8.out.1.2 (Nat.le_trans (List.length_filter_le _ _) hd6)).mono ?_
          rintro e w9 ⟨rfl, hb9⟩
          have HU9 := Lib.hid (And.intro (RdP.below HU8.out.2.1 hb9) (RdP.below HU8.out.2.2 hb9))
          have HW9 := Lib.hid (low_more HW8.out hb9)
          clear hb9 HU8 HW8
          go_wp2_with fail
          refine (same_ints w9 u3 u4 _ HU9.out.1 HU9.out.2 (Nat.le_trans (List.length_filter_le _ _) hd6)).mono ?_
          rintro e w10 ⟨rfl, hb10⟩
          have HW10 := Lib.hid (low_more HW9.out hb10)
          clear hb10
          go_wp2_with fail
          go_ret
          exact ⟨rfl, HW10.out⟩
end Go.Proofs.Ytaaeooimalglaaa
