/-
  Layer 17 as it landed: a leaf is read; several parts are joined. Over the program's own text.
-/
import Derived.Test.YtaaeooimalglaaaDoorQryLeaf
import Derived.Test.YtaaeooimalglaaaDoorQryMay
namespace Go.Proofs.YtaaeooimalglaaaDoor
open Go.RowKit

set_option maxRecDepth 100000 in
theorem textZ_few (q : List Nat) : (textZ (ints q)).size ≤ 4 * q.length := by
  rw [textZ_size, textB_textL]
  have : ∀ l : List Nat, (textL l).length ≤ 4 * l.length := by
    intro l
    induction l with
    | nil => simp [textL]
    | cons c l ih =>
      have := encR_len c
      show (encR c ++ textL l).length ≤ _
      rw [List.length_append, List.length_cons]; omega
  have := this ((ints q).map normR)
  rw [List.length_map, ints_length] at this
  exact this
set_option maxRecDepth 100000 in
/-- The first of a row of nodes lies whole in its block. -/
theorem nodes_block {w : World} {base : Nat} {v : Value} {l : List Rn} (h : NodesIn w base v l) (hl : l ≠ []) : ∃ g cap cur, v = .slice (some ⟨g, 0, none⟩) l.length cap ∧ base ≤ g ∧ w.heap[g]? = some (.cells cur 26 (0, 0)) ∧ l.length ≤ cap ∧ cap ≤ maxLen ∧ ∀ (i : Nat) r, l[i]? = some r → ∀ (j : Nat) (x : Value), (rnC r).toArray.toList[j]? = some x → cur[i * 4 + j]? = some x := by
  rcases h.2 with ⟨rfl, h0⟩ | ⟨g, cap, cur, rfl, hb, hg, hn, hm, hs, ht⟩
  · exact absurd (List.eq_nil_of_length_eq_zero h0) hl
  · refine ⟨g, cap, cur, rfl, hb, hg, hn, hm, fun i r hi j x hx => ?_⟩
    have hj : j < 4 := (List.getElem?_eq_some_iff.1 hx).1
    have h3 := rnsC_get l i r hi j hj
    rw [← ht] at h3
    have hx' : (rnC r)[j]? = some x := hx
    rw [hx', List.getElem?_take] at h3
    split at h3
    · simpa using h3
    · cases h3
set_option maxRecDepth 100000 in
set_option maxHeartbeats 4000000 in
theorem join_node (w : World) (kind : Int) (lo : Nat) (S S' : Nat → Prop) (hS1 : ∀ b, S b → S' b) (hS2 : ∀ b, lo ≤ b → S' b) (v : Value) (ps : List Nd) (rs : List Rn) (hv : NodesIn w lo v rs) (hr : RdNs w S ps rs) (hp : ps ≠ []) (hn : ps.length ≤ 1000000) (hlo : lo ≤ w.heap.size) :
    Calls Tryd.prog 33 #[.int .i64 kind, v] w fun e w' => NodeDone S' w (joinN kind ps) e w' := by
  have hrs : rs ≠ [] := fun e => hp (List.eq_nil_of_length_eq_zero (by rw [← hr.1, e]; rfl))
  obtain ⟨g, cap, cur, rfl, hb, hg, hc, hm, hpart⟩ := nodes_block hv hrs
  obtain ⟨n, hnn⟩ : ∃ n, n = ps.length := ⟨_, rfl⟩
  have hn0 : 0 < n := by cases ps with | nil => exact absurd rfl hp | cons => rw [hnn]; simp
  rw [hr.1, ← hnn] at hc ⊢
  have HR := Lib.hid hr
  have HN := Lib.hid hnn
  have HG := Lib.hid hg
  have HI := Lib.hid (And.intro hb (And.intro hc (And.intro hm hlo)))
  have HV := Lib.hid hv
  have HP := Lib.hid hpart
  have HB := Lib.hid (below_one (w := w) (A := .cells #[.int .i64 0, .int .u8 0, .slice none 0 0, .slice none 0 0] 26))
  have HZ := Lib.hid (heap_alloc_new w (.cells #[.int .i64 0, .int .u8 0, .slice none 0 0, .slice none 0 0] 26))
  rw [← hnn] at hn
  clear hv hr hrs hnn hg hb hc hm hlo hpart hp
  by_cases h1 : n = 1
  · obtain ⟨x, hx⟩ : ∃ x, ps = [x] := by
      have := HN.out
      match ps, this with
      | [x], _ => exact ⟨x, rfl⟩
      | [], h => simp at h; omega
      | _ :: _ :: _, h => simp at h; omega
    have hrl : rs.length = 1 := by rw [HR.out.1, hx]; rfl
    obtain ⟨r, hrr⟩ : ∃ r, rs = [r] := by
      match rs, hrl with
      | [r], _ => exact ⟨r, rfl⟩
    subst hx hrr
    have hpr := HP.out 0 r rfl
    have hrd := HR.out.2 0 x r rfl rfl
    have HPr := Lib.hid hpr
    have HRd := Lib.hid hrd
    have HGb := Lib.hid (blk_low HG.out HB.out)
    have h1i : (n : Int) = 1 := by omega
    clear hpr hrd hrl
    go_enter Tryd.func33, Tryd.ntmps33
    go_wp2_with (first
      | (refine wpList_load_part rfl 26 (.tmp 9) rfl g 0 rfl 26 cur (rnC r).toArray (0, 0) _ HGb.out (fun j v hv => by have := HPr.out j v hv; simpa using this) Tryd.underlying26 rfl (node_info r) ?_)
      | (refine wpList_store_row rfl 26 (.tmp 4) (.tmp 10) rfl w.heap.size (rnC r).toArray rfl rfl 26 #[.int .i64 0, .int .u8 0, .slice none 0 0, .slice none 0 0] HZ.out (node_info r) rfl HRd.out.one ?_)
      | fail)
    refine bodyPost_ret (v := rnV r) (results_cell_row rfl _ _ w.heap.size _ _ (0, 0) _ rfl (setRow_heap _ _ _ _ _ _ HZ.out) Tryd.underlying26 rfl (node_info r)) rfl ?_
    have hbl := below_row HB.out (Nat.le_refl w.heap.size) (rnC r).toArray
    exact ⟨r, rfl, (HRd.out.mono fun b _ hb => hS1 b hb).after hbl, hbl⟩
  · have h1i : ¬ (n : Int) = 1 := by omega
    have hge : 2 ≤ ps.length := by have := HN.out; omega
    have HJ := Lib.hid (join_ge kind hge)
    clear hge
    go_enter Tryd.func33, Tryd.ntmps33
    go_wp2_with (first
      | (refine wpList_store_row rfl 26 (.tmp 4) (.tmp 13) rfl w.heap.size #[.int .i64 kind, .int .u8 0, .slice none 0 0, .slice (some ⟨g, 0, none⟩) n cap] rfl rfl 26 #[.int .i64 0, .int .u8 0, .slice none 0 0, .slice none 0 0] HZ.out (node_info (kind, 0, .slice none 0 0, .slice (some ⟨g, 0, none⟩) n cap)) rfl node_one ?_)
      | fail)
    refine bodyPost_ret (v := rnV (kind, 0, .slice none 0 0, .slice (some ⟨g, 0, none⟩) n cap)) (results_cell_row rfl _ _ w.heap.size _ _ (0, 0) _ rfl (setRow_heap _ _ _ _ _ _ HZ.out) Tryd.underlying26 rfl (node_info _)) rfl ?_
    have hbl := below_row HB.out (Nat.le_refl w.heap.size) #[.int .i64 kind, .int .u8 0, .slice none 0 0, .slice (some ⟨g, 0, none⟩) n cap]
    refine ⟨_, rfl, ?_, hbl⟩
    rw [HJ.out]
    obtain ⟨oa, cap', hv, h1, h2, h3, h4⟩ := nodes_reads HV.out
    injection hv with e1 e2 e3
    subst e1 e3
    have h := RdN.mk (w := w) (S := S') (k := kind) (f := 0) (ts := []) (ks := ps) (ta := none) (tc := 0) (rs := rs) (by decide) (by decide) (fun j x hj => by simp at hj) (Nat.le_refl _) (by decide) (fun a ha _ => by cases ha) h3 (by rw [← HN.out]; exact HI.out.2.1) h2 (fun a ha _ => hS2 _ (h4 a ha)) HR.out.1 (fun j x r h1 h2 => (HR.out.2 j x r h1 h2).mono fun b _ hb => hS1 b hb)
    rw [← HN.out] at h
    exact h.after hbl
set_option maxRecDepth 100000 in
/-- The result's block of a part's reading, as it lies ahead of the last store. -/
theorem res_block {w w' : World} {rb : Nat} {z : Array Value} (hm : Mod (fun k => k = rb) (w.alloc (.cells z 26)) w') (hrb : rb < w.heap.size) : w'.heap[w.heap.size]? = some (.cells z 26 (0, 0)) :=
  (hm.block w.heap.size (by simp) (by omega)).trans (heap_alloc_new w _)
set_option maxRecDepth 100000 in
theorem res_mod {w w' : World} {rb : Nat} {z cs : Array Value} (hm : Mod (fun k => k = rb) (w.alloc (.cells z 26)) w') : Mod (fun k => k = rb) w (w'.setRow w.heap.size cs) :=
  ⟨hm.os, hm.tape, hm.output, by have := hm.size; simp [World.setRow] at this ⊢; omega, fun k hk hkr => by
    have := hm.size
    rw [setRow_other _ _ _ _ (by omega), hm.block k (by simp; omega) hkr, Below.heap_alloc _ _ _ (by omega)]⟩
def zeroNd : Array Value := #[.int .i64 0, .int .u8 0, .slice none 0 0, .slice none 0 0]
set_option maxRecDepth 100000 in
theorem row_rdr {W0 w' : World} {rb : Nat} {R : List Nat} {op : Int} {g : Nat} {cs : Array Value} (h : Rdr W0 w' rb R op) (hg : rb < g) : Rdr W0 (w'.setRow g cs) rb R op := h.high (below_row (Below.refl _ _) hg cs)
set_option maxRecDepth 100000 in
theorem wordP_skip (k : Nat) (l : List Nat) : wordP k (skipB l) = wordP k l := by unfold wordP; rw [skipB_skip]
set_option maxRecDepth 100000 in
theorem mod_al {w w' : World} {rb : Nat} {o : Obj} (hm : Mod (fun k => k = rb) (w.alloc o) w') : Mod (fun k => k = rb) w w' := ((Mod.refl _ _).alloc o).trans hm
set_option maxRecDepth 100000 in
theorem node_after {w w' : World} {lo g : Nat} {x : Nd} {r : Rn} {cs : Array Value} (h : RdN w' (fromB lo) x r) (hg : g < lo) (hl : w.heap.size ≤ lo) : RdN (w'.setRow g cs) (fromB w.heap.size) x r :=
  (h.keep fun b h1 _ => setRow_other _ _ _ _ (by unfold fromB at h1; omega)).mono fun b _ hb => by unfold fromB at hb ⊢; omega
set_option maxRecDepth 100000 in
set_option maxHeartbeats 4000000 in
theorem leafr_any {W0 w : World} {rb : Nat} {R : List Nat} {k : Nat} (h : Rdr W0 w rb R (8 - (k : Int))) (hk : k ≤ 8) :
    Calls Tryd.prog 47 #[.pointer (some ⟨rb, 0, none⟩)] w (Did W0 w rb (8 - (k : Int)) (leafP k R) (NodeV (fromB w.heap.size))) := by
  have hrb := h.lt
  have hW0 : W0.heap.size ≤ w.heap.size := h.low.size
  have HF := Lib.hid (field_any (h.below (below_one (A := .cells zeroNd 26))))
  obtain ⟨S, hS⟩ : ∃ S, S = (fieldP R).2 := ⟨_, rfl⟩
  obtain ⟨f, hf⟩ : ∃ f, f = (fieldP R).1 := ⟨_, rfl⟩
  have hfb := field_parts R
  have hL : leafP k R = if headZ (skipB S) = 34 then (phraseP ((skipB S).drop 1)).map (leafNd f) else (wordP k S).map (leafNd f) := by unfold leafP; rw [hS, hf]
  obtain ⟨xp, hxp⟩ : ∃ xp, xp = leafP k R := ⟨_, rfl⟩
  rw [← hxp] at hL ⊢
  clear hxp
  rw [← hS, ← hf] at HF
  rw [← hf] at hfb
  obtain ⟨-, hf0, hf4⟩ := hfb
  have HI := Lib.hid (And.intro hrb hW0)
  have hZ : zeroNd = #[.int .i64 0, .int .u8 0, .slice none 0 0, .slice none 0 0] := rfl
  clear h hS hf hrb hW0
  by_cases h34 : headZ (skipB S) = 34
  · rw [if_pos h34] at hL
    have HXp := Lib.hid hL
    clear hL
    go_enter Tryd.func47, Tryd.ntmps47
    go_wp2_with fail
    refine HF.out.mono ?_
    rintro e w2 ⟨rfl, h2, h3⟩
    have HN := Lib.hid (next_any h2)
    have H3 := Lib.hid h3
    rw [h34] at HN
    clear h2 h3
    go_wp2_with fail
    refine HN.out.mono ?_
    rintro e w3 ⟨rfl, h4, h5⟩
    have hl1 : 1 ≤ (skipB S).length := by rw [headZ_cons h34 (by omega)]; simp
    have HP := Lib.hid (phrase_any h4 hl1)
    have H5 := Lib.hid (H3.out.trans h5)
    have hok := h4.okr
    have hle := h4.less
    clear h4 h5 HN
    cases hx : phraseP ((skipB S).drop 1) with
    | err c =>
      have HP2 := Lib.hid (did_err HP.out hx)
      have HX := Lib.hid hx
      clear hx hok hle
      go_wp2_with fail
      refine HP2.out.mono ?_
      rintro e w4 ⟨rfl, h6⟩
      exact ⟨rfl, mod_al (H5.out.trans h6), by rw [HXp.out, HX.out]; rfl⟩
    | ok q r =>
      have HP2 := Lib.hid (did_ok HP.out hx)
      have HX := Lib.hid hx
      obtain ⟨hqo, hql⟩ : (∀ c ∈ q, okR c) ∧ q.length ≤ 1000 := by
        have hp := phrase_parts hx
        refine ⟨fun c hc => hok c (List.mem_of_mem_drop (hp.2.1 c hc)), ?_⟩
        have h3 := hp.2.2
        rw [List.length_drop] at h3
        omega
      have HQ := Lib.hid hqo
      have hsz : (textZ (ints q)).size ≤ 1000000 := by have := textZ_few q; omega
      have HSz := Lib.hid hsz
      clear hx hok hle hqo hql hsz
      go_wp2_with fail
      refine HP2.out.mono ?_
      rintro e w4 ⟨v, rfl, rfl, h6, h7⟩
      have H7 := Lib.hid (H5.out.trans h7)
      have HLf := Lib.hid (leafn_any w4 f hf0 (by omega) (textZ (ints q)) HSz.out h6.tab)
      have H6 := Lib.hid h6
      clear h6 h7 HP HP2
      go_wp2_with fail
      refine HLf.out.mono ?_
      rintro e w5 ⟨r5, rfl, h8, h9⟩
      have H8 := Lib.hid h8
      have H9 := Lib.hid h9
      have HM := Lib.hid (H7.out.trans (below_mod h9))
      have HZ := Lib.hid (res_block HM.out HI.out.1)
      have H10 := Lib.hid (H6.out.below h9)
      have HS5 := Lib.hid (show w.heap.size < w4.heap.size from by have := H7.out.size; simp at this; omega)
      clear h8 h9
      go_wp2_with (refine wpList_store_row rfl 26 (.tmp 2) (.tmp 12) rfl w.heap.size (rnC r5).toArray rfl rfl 26 zeroNd HZ.out (node_info r5) rfl H8.out.one ?_)
      refine bodyPost_ret (v := rnV r5) (results_cell_row rfl _ _ w.heap.size _ _ (0, 0) _ rfl (setRow_heap _ _ _ _ _ _ HZ.out) Tryd.underlying26 rfl (node_info r5)) rfl ?_
      refine ⟨res_mod HM.out, ?_⟩
      rw [HXp.out, HX.out]
      refine ⟨rnV r5, rfl, ⟨r5, rfl, ?_⟩, row_rdr H10.out HI.out.1⟩
      have h11 := node_after (w := w) (cs := (rnC r5).toArray) H8.out HS5.out (Nat.le_of_lt HS5.out)
      rw [leafS_text f HQ.out] at h11
      exact h11
  · rw [if_neg h34] at hL
    have HXp := Lib.hid hL
    clear hL
    go_enter Tryd.func47, Tryd.ntmps47
    go_wp2_with fail
    refine HF.out.mono ?_
    rintro e w2 ⟨rfl, h2, h3⟩
    have HN := Lib.hid (next_any h2)
    have H3 := Lib.hid h3
    have hb34 : (headZ (skipB S) == 34) = false := by simp [h34]
    obtain ⟨hd, hhd⟩ : ∃ hd, hd = headZ (skipB S) := ⟨_, rfl⟩
    rw [← hhd] at HN h34 hb34
    clear h2 h3 hhd
    go_wp2_with fail
    refine HN.out.mono ?_
    rintro e w3 ⟨rfl, h4, h5⟩
    have HP := Lib.hid (word_any h4 hk)
    rw [wordP_skip] at HP
    have H5 := Lib.hid (H3.out.trans h5)
    have hok := h4.okr
    have hle := h4.less
    clear h4 h5 HN
    cases hx : wordP k S with
    | err c =>
      have HP2 := Lib.hid (did_err HP.out hx)
      have HX := Lib.hid hx
      clear hx hok hle
      go_wp2_with fail
      refine HP2.out.mono ?_
      rintro e w4 ⟨rfl, h6⟩
      exact ⟨rfl, mod_al (H5.out.trans h6), by rw [HXp.out, HX.out]; rfl⟩
    | ok q r =>
      have HP2 := Lib.hid (did_ok HP.out hx)
      have HX := Lib.hid hx
      obtain ⟨hqo, hql⟩ : (∀ c ∈ q, okR c) ∧ q.length ≤ 1000 := by
        rw [← wordP_skip] at hx
        have hp := word_parts hx
        refine ⟨fun c hc => hok c (hp.2 c hc).1, ?_⟩
        have h3 := word_len hx
        omega
      have HQ := Lib.hid hqo
      have hsz : (textZ (ints q)).size ≤ 1000000 := by have := textZ_few q; omega
      have HSz := Lib.hid hsz
      clear hx hok hle hqo hql hsz
      go_wp2_with fail
      refine HP2.out.mono ?_
      rintro e w4 ⟨v, rfl, rfl, h6, h7⟩
      have H7 := Lib.hid (H5.out.trans h7)
      have HLf := Lib.hid (leafn_any w4 f hf0 (by omega) (textZ (ints q)) HSz.out h6.tab)
      have H6 := Lib.hid h6
      clear h6 h7 HP HP2
      go_wp2_with fail
      refine HLf.out.mono ?_
      rintro e w5 ⟨r5, rfl, h8, h9⟩
      have H8 := Lib.hid h8
      have H9 := Lib.hid h9
      have HM := Lib.hid (H7.out.trans (below_mod h9))
      have HZ := Lib.hid (res_block HM.out HI.out.1)
      have H10 := Lib.hid (H6.out.below h9)
      have HS5 := Lib.hid (show w.heap.size < w4.heap.size from by have := H7.out.size; simp at this; omega)
      clear h8 h9
      go_wp2_with (refine wpList_store_row rfl 26 (.tmp 2) (.tmp 16) rfl w.heap.size (rnC r5).toArray rfl rfl 26 zeroNd HZ.out (node_info r5) rfl H8.out.one ?_)
      refine bodyPost_ret (v := rnV r5) (results_cell_row rfl _ _ w.heap.size _ _ (0, 0) _ rfl (setRow_heap _ _ _ _ _ _ HZ.out) Tryd.underlying26 rfl (node_info r5)) rfl ?_
      refine ⟨res_mod HM.out, ?_⟩
      rw [HXp.out, HX.out]
      refine ⟨rnV r5, rfl, ⟨r5, rfl, ?_⟩, row_rdr H10.out HI.out.1⟩
      have h11 := node_after (w := w) (cs := (rnC r5).toArray) H8.out HS5.out (Nat.le_of_lt HS5.out)
      rw [leafS_text f HQ.out] at h11
      exact h11
end Go.Proofs.YtaaeooimalglaaaDoor
