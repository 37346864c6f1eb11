/-
  Layer 17 as it landed: a leaf is read; several parts are joined. Over the program's own text.
-/
import Derived.Test.YthkpaelpnofbgaaGreatDoorQsC11
import Derived.Test.YthkpaelpnofbgaaGreatDoorQsC13
import Derived.Test.YthkpaelpnofbgaaGreatDoorQsC06

namespace Go.Proofs.YthkpaelpnofbgaaGreatDoor
open Go.RowKit

set_option maxRecDepth 100000 in
theorem textZ_few (q : List Nat) : (textZ (ints q)).size ≤ 4 * q.length := by
  rw [textZ_size, textB_textL]
  have : ∀ l : List Nat, (textL l).length ≤ 4 * l.length := by
    intro l
    induction l with
    | nil => simp [textL]
    | cons c l ih =>
      have := encR_len c
      show (encR c ++ textL l).length ≤ _
      rw [List.length_append, List.length_cons]; omega
  have := this ((ints q).map normR)
  rw [List.length_map, ints_length] at this
  exact this
set_option maxRecDepth 100000 in
/-- The first of a row of nodes lies whole in its block. -/
theorem nodes_block {w : World} {base : Nat} {v : Value} {l : List Rn} (h : NodesIn w base v l) (hl : l ≠ []) : ∃ g cap cur, v = .slice (some ⟨g, 0, none⟩) l.length cap ∧ base ≤ g ∧ w.heap[g]? = some (.cells cur 25 (0, 0)) ∧ l.length ≤ cap ∧ cap ≤ maxLen ∧ ∀ (i : Nat) r, l[i]? = some r → ∀ (j : Nat) (x : Value), (rnC r).toArray.toList[j]? = some x → cur[i * 4 + j]? = some x := by
  rcases h.2 with ⟨rfl, h0⟩ | ⟨g, cap, cur, rfl, hb, hg, hn, hm, hs, ht⟩
  · exact absurd (List.eq_nil_of_length_eq_zero h0) hl
  · refine ⟨g, cap, cur, rfl, hb, hg, hn, hm, fun i r hi j x hx => ?_⟩
    have hj : j < 4 := (List.getElem?_eq_some_iff.1 hx).1
    have h3 := rnsC_get l i r hi j hj
    rw [← ht] at h3
    have hx' : (rnC r)[j]? = some x := hx
    rw [hx', List.getElem?_take] at h3
    split at h3
    · simpa using h3
    · cases h3
set_option maxRecDepth 100000 in
set_option maxHeartbeats 4000000 in
theorem join_node (w : World) (kind : Int) (lo : Nat) (S S' : Nat → Prop) (hS1 : ∀ b, S b → S' b) (hS2 : ∀ b, lo ≤ b → S' b) (v : Value) (ps : List Nd) (rs : List Rn) (hv : NodesIn w lo v rs) (hr : RdNs w S ps rs) (hp : ps ≠ []) (hn : ps.length ≤ 1000000) (hlo : lo ≤ w.heap.size) :
    Calls Tryz.prog 41 #[.int .i64 kind, v] w fun e w' => NodeDone S' w (joinN kind ps) e w' := by
  have hrs : rs ≠ [] := fun e => hp (List.eq_nil_of_length_eq_zero (by rw [← hr.1, e]; rfl))
  obtain ⟨g, cap, cur, rfl, hb, hg, hc, hm, hpart⟩ := nodes_block hv hrs
  obtain ⟨n, hnn⟩ : ∃ n, n = ps.length := ⟨_, rfl⟩
  have hn0 : 0 < n := by cases ps with | nil => exact absurd rfl hp | cons => rw [hnn]; simp
  rw [hr.1, ← hnn] at hc ⊢
  have HR := Lib.hid hr
  have HN := Lib.hid hnn
  have HG := Lib.hid hg
  have HI := Lib.hid (And.intro hb (And.intro hc (And.intro hm hlo)))
  have HV := Lib.hid hv
  have HP := Lib.hid hpart
  have HB := Lib.hid (below_one (w := w) (A := .cells #[.int .i64 0, .int .u8 0, .slice none 0 0, .slice none 0 0] 25))
  have HZ := Lib.hid (heap_alloc_new w (.cells #[.int .i64 0, .int .u8 0, .slice none 0 0, .slice none 0 0] 25))
  rw [← hnn] at hn
  clear hv hr hrs hnn hg hb hc hm hlo hpart hp
  by_cases h1 : n = 1
  · obtain ⟨x, hx⟩ : ∃ x, ps = [x] := by
      have := HN.out
      match ps, this with
      | [x], _ => exact ⟨x, rfl⟩
      | [], h => simp at h; omega
      | _ :: _ :: _, h => simp at h; omega
    have hrl : rs.length = 1 := by rw [HR.out.1, hx]; rfl
    obtain ⟨r, hrr⟩ : ∃ r, rs = [r] := by
      match rs, hrl with
      | [r], _ => exact ⟨r, rfl⟩
    subst hx hrr
    have hpr := HP.out 0 r rfl
    have hrd := HR.out.2 0 x r rfl rfl
    have HPr := Lib.hid hpr
    have HRd := Lib.hid hrd
    have HGb := Lib.hid (blk_low HG.out HB.out)
    have h1i : (n : Int) = 1 := by omega
    clear hpr hrd hrl
    go_enter Tryz.func41, Tryz.ntmps41
    go_wp2_with (first
      | (refine wpList_load_part rfl 25 (.tmp 9) rfl g 0 rfl 25 cur (rnC r).toArray (0, 0) _ HGb.out (fun j v hv => by have := HPr.out j v hv; simpa using this) Tryz.underlying25 rfl (node_info r) ?_)
      | (refine wpList_store_row rfl 25 (.tmp 4) (.tmp 10) rfl w.heap.size (rnC r).toArray rfl rfl 25 #[.int .i64 0, .int .u8 0, .slice none 0 0, .slice none 0 0] HZ.out (node_info r) rfl HRd.out.one ?_)
      | fail)
    refine bodyPost_ret (v := rnV r) (results_cell_row rfl _ _ w.heap.size _ _ (0, 0) _ rfl (setRow_heap _ _ _ _ _ _ HZ.out) Tryz.underlying25 rfl (node_info r)) rfl ?_
    have hbl := below_row HB.out (Nat.le_refl w.heap.size) (rnC r).toArray
    exact ⟨r, rfl, (HRd.out.mono fun b _ hb => hS1 b hb).after hbl, hbl⟩
  · have h1i : ¬ (n : Int) = 1 := by omega
    have hge : 2 ≤ ps.length := by have := HN.out; omega
    have HJ := Lib.hid (join_ge kind hge)
    clear hge
    go_enter Tryz.func41, Tryz.ntmps41
    go_wp2_with (first
      | (refine wpList_store_row rfl 25 (.tmp 4) (.tmp 13) rfl w.heap.size #[.int .i64 kind, .int .u8 0, .slice none 0 0, .slice (some ⟨g, 0, none⟩) n cap] rfl rfl 25 #[.int .i64 0, .int .u8 0, .slice none 0 0, .slice none 0 0] HZ.out (node_info (kind, 0, .slice none 0 0, .slice (some ⟨g, 0, none⟩) n cap)) rfl node_one ?_)
      | fail)
    refine bodyPost_ret (v := rnV (kind, 0, .slice none 0 0, .slice (some ⟨g, 0, none⟩) n cap)) (results_cell_row rfl _ _ w.heap.size _ _ (0, 0) _ rfl (setRow_heap _ _ _ _ _ _ HZ.out) Tryz.underlying25 rfl (node_info _)) rfl ?_
    have hbl := below_row HB.out (Nat.le_refl w.heap.size) #[.int .i64 kind, .int .u8 0, .slice none 0 0, .slice (some ⟨g, 0, none⟩) n cap]
    refine ⟨_, rfl, ?_, hbl⟩
    rw [HJ.out]
    obtain ⟨oa, cap', hv, h1, h2, h3, h4⟩ := nodes_reads HV.out
    injection hv with e1 e2 e3
    subst e1 e3
    have h := RdN.mk (w := w) (S := S') (k := kind) (f := 0) (ts := []) (ks := ps) (ta := none) (tc := 0) (rs := rs) (by decide) (by decide) (fun j x hj => by simp at hj) (Nat.le_refl _) (by decide) (fun a ha _ => by cases ha) h3 (by rw [← HN.out]; exact HI.out.2.1) h2 (fun a ha _ => hS2 _ (h4 a ha)) HR.out.1 (fun j x r h1 h2 => (HR.out.2 j x r h1 h2).mono fun b _ hb => hS1 b hb)
    rw [← HN.out] at h
    exact h.after hbl
set_option maxRecDepth 100000 in
/-- The result's block of a part's reading, as it lies ahead of the last store. -/
theorem res_block {w w' : World} {rb : Nat} {z : Array Value} (hm : Mod (fun k => k = rb) (w.alloc (.cells z 25)) w') (hrb : rb < w.heap.size) : w'.heap[w.heap.size]? = some (.cells z 25 (0, 0)) :=
  (hm.block w.heap.size (by simp) (by omega)).trans (heap_alloc_new w _)
set_option maxRecDepth 100000 in
theorem res_mod {w w' : World} {rb : Nat} {z cs : Array Value} (hm : Mod (fun k => k = rb) (w.alloc (.cells z 25)) w') : Mod (fun k => k = rb) w (w'.setRow w.heap.size cs) :=
  ⟨hm.os, hm.tape, hm.output, by have := hm.size; simp [World.setRow] at this ⊢; omega, fun k hk hkr => by
    have := hm.size
    rw [setRow_other _ _ _ _ (by omega), hm.block k (by simp; omega) hkr, Below.heap_alloc _ _ _ (by omega)]⟩
def zeroNd : Array Value := #[.int .i64 0, .int .u8 0, .slice none 0 0, .slice none 0 0]
set_option maxRecDepth 100000 in
theorem row_rdr {W0 w' : World} {rb : Nat} {R : List Nat} {op : Int} {g : Nat} {cs : Array Value} (h : Rdr W0 w' rb R op) (hg : rb < g) : Rdr W0 (w'.setRow g cs) rb R op := h.high (below_row (Below.refl _ _) hg cs)
set_option maxRecDepth 100000 in
theorem wordP_skip (k : Nat) (l : List Nat) : wordP k (skipB l) = wordP k l := by unfold wordP; rw [skipB_skip]
set_option maxRecDepth 100000 in
theorem mod_al {w w' : World} {rb : Nat} {o : Obj} (hm : Mod (fun k => k = rb) (w.alloc o) w') : Mod (fun k => k = rb) w w' := ((Mod.refl _ _).alloc o).trans hm
set_option maxRecDepth 100000 in
theorem node_after {w w' : World} {lo g : Nat} {x : Nd} {r : Rn} {cs : Array Value} (h : RdN w' (fromB lo) x r) (hg : g < lo) (hl : w.heap.size ≤ lo) : RdN (w'.setRow g cs) (fromB w.heap.size) x r :=
  (h.keep fun b h1 _ => setRow_other _ _ _ _ (by unfold fromB at h1; omega)).mono fun b _ hb => by unfold fromB at hb ⊢; omega
set_option maxRecDepth 100000 in
set_option maxHeartbeats 4000000 in
theorem leafr_any {W0 w : World} {rb : Nat} {R : List Nat} {k : Nat} (h : Rdr W0 w rb R (8 - (k : Int))) (hk : k ≤ 8) :
    Calls Tryz.prog 74 #[.pointer (some ⟨rb, 0, none⟩)] w (Did W0 w rb (8 - (k : Int)) (leafP k R) (NodeV (fromB w.heap.size))) := by
  have hrb := h.lt
  have hW0 : W0.heap.size ≤ w.heap.size := h.low.size
  have HF := Lib.hid (field_any (h.below (below_one (A := .cells zeroNd 25))))
  obtain ⟨S, hS⟩ : ∃ S, S = (fieldP R).2 := ⟨_, rfl⟩
  obtain ⟨f, hf⟩ : ∃ f, f = (fieldP R).1 := ⟨_, rfl⟩
  have hfb := field_parts R
  have hL : leafP k R = if headZ (skipB S) = 34 then (phraseP ((skipB S).drop 1)).map (leafNd f) else (wordP k S).map (leafNd f) := by unfold leafP; rw [hS, hf]
  obtain ⟨xp, hxp⟩ : ∃ xp, xp = leafP k R := ⟨_, rfl⟩
  rw [← hxp] at hL ⊢
  clear hxp
  rw [← hS, ← hf] at HF
  rw [← hf] at hfb
  obtain ⟨-, hf0, hf4⟩ := hfb
  have HI := Lib.hid (And.intro hrb hW0)
  have hZ : zeroNd = #[.int .i64 0, .int .u8 0, .slice none 0 0, .slice none 0 0] := rfl
  clear h hS hf hrb hW0
  by_cases h34 : headZ (skipB S) = 34
  · rw [if_pos h34] at hL
    have HXp := Lib.hid hL
    clear hL
    go_enter Tryz.func74, Tryz.ntmps74
    go_wp2_with fail
    refine HF.out.mono ?_
    rintro e w2 ⟨rfl, h2, h3⟩
    have HN := Lib.hid (next_any h2)
    have H3 := Lib.hid h3
    rw [h34] at HN
    clear h2 h3
    go_wp2_with fail
    refine HN.out.mono ?_
    rintro e w3 ⟨rfl, h4, h5⟩
    have hl1 : 1 ≤ (skipB S).length := by rw [headZ_cons h34 (by omega)]; simp
    have HP := Lib.hid (phrase_any h4 hl1)
    have H5 := Lib.hid (H3.out.trans h5)
    have hok := h4.okr
    have hle := h4.less
    clear h4 h5 HN
    cases hx : phraseP ((skipB S).drop 1) with
    | err c =>
      have HP2 := Lib.hid (did_err HP.out hx)
      have HX := Lib.hid hx
      clear hx hok hle
      go_wp2_with fail
      refine HP2.out.mono ?_
      rintro e w4 ⟨rfl, h6⟩
      exact ⟨rfl, mod_al (H5.out.trans h6), by rw [HXp.out, HX.out]; rfl⟩
    | ok q r =>
      have HP2 := Lib.hid (did_ok HP.out hx)
      have HX := Lib.hid hx
      obtain ⟨hqo, hql⟩ : (∀ c ∈ q, okR c) ∧ q.length ≤ 1000 := by
        have hp := phrase_parts hx
        refine ⟨fun c hc => hok c (List.mem_of_mem_drop (hp.2.1 c hc)), ?_⟩
        have h3 := hp.2.2
        rw [List.length_drop] at h3
        omega
      have HQ := Lib.hid hqo
      have hsz : (textZ (ints q)).size ≤ 1000000 := by have := textZ_few q; omega
      have HSz := Lib.hid hsz
      clear hx hok hle hqo hql hsz
      go_wp2_with fail
      refine HP2.out.mono ?_
      rintro e w4 ⟨v, rfl, rfl, h6, h7⟩
      have H7 := Lib.hid (H5.out.trans h7)
      have HLf := Lib.hid (leafn_any w4 f hf0 (by omega) (textZ (ints q)) HSz.out h6.tab)
      have H6 := Lib.hid h6
      clear h6 h7 HP HP2
      go_wp2_with fail
      refine HLf.out.mono ?_
      rintro e w5 ⟨r5, rfl, h8, h9⟩
      have H8 := Lib.hid h8
      have H9 := Lib.hid h9
      have HM := Lib.hid (H7.out.trans (below_mod h9))
      have HZ := Lib.hid (res_block HM.out HI.out.1)
      have H10 := Lib.hid (H6.out.below h9)
      have HS5 := Lib.hid (show w.heap.size < w4.heap.size from by have := H7.out.size; simp at this; omega)
      clear h8 h9
      go_wp2_with (refine wpList_store_row rfl 25 (.tmp 2) (.tmp 12) rfl w.heap.size (rnC r5).toArray rfl rfl 25 zeroNd HZ.out (node_info r5) rfl H8.out.one ?_)
      refine bodyPost_ret (v := rnV r5) (results_cell_row rfl _ _ w.heap.size _ _ (0, 0) _ rfl (setRow_heap _ _ _ _ _ _ HZ.out) Tryz.underlying25 rfl (node_info r5)) rfl ?_
      refine ⟨res_mod HM.out, ?_⟩
      rw [HXp.out, HX.out]
      refine ⟨rnV r5, rfl, ⟨r5, rfl, ?_⟩, row_rdr H10.out HI.out.1⟩
      have h11 := node_after (w := w) (cs := (rnC r5).toArray) H8.out HS5.out (Nat.le_of_lt HS5.out)
      rw [leafS_text f HQ.out] at h11
      exact h11
  · rw [if_neg h34] at hL
    have HXp := Lib.hid hL
    clear hL
    go_enter Tryz.func74, Tryz.ntmps74
    go_wp2_with fail
    refine HF.out.mono ?_
    rintro e w2 ⟨rfl, h2, h3⟩
    have HN := Lib.hid (next_any h2)
    have H3 := Lib.hid h3
    have hb34 : (headZ (skipB S) == 34) = false := by simp [h34]
    obtain ⟨hd, hhd⟩ : ∃ hd, hd = headZ (skipB S) := ⟨_, rfl⟩
    rw [← hhd] at HN h34 hb34
    clear h2 h3 hhd
    go_wp2_with fail
    refine HN.out.mono ?_
    rintro e w3 ⟨rfl, h4, h5⟩
    have HP := Lib.hid (word_any h4 hk)
    rw [wordP_skip] at HP
    have H5 := Lib.hid (H3.out.trans h5)
    have hok := h4.okr
    have hle := h4.less
    clear h4 h5 HN
    cases hx : wordP k S with
    | err c =>
      have HP2 := Lib.hid (did_err HP.out hx)
      have HX := Lib.hid hx
      clear hx hok hle
      go_wp2_with fail
      refine HP2.out.mono ?_
      rintro e w4 ⟨rfl, h6⟩
      exact ⟨rfl, mod_al (H5.out.trans h6), by rw [HXp.out, HX.out]; rfl⟩
    | ok q r =>
      have HP2 := Lib.hid (did_ok HP.out hx)
      have HX := Lib.hid hx
      obtain ⟨hqo, hql⟩ : (∀ c ∈ q, okR c) ∧ q.length ≤ 1000 := by
        rw [← wordP_skip] at hx
        have hp := word_parts hx
        refine ⟨fun c hc => hok c (hp.2 c hc).1, ?_⟩
        have h3 := word_len hx
        omega
      have HQ := Lib.hid hqo
      have hsz : (textZ (ints q)).size ≤ 1000000 := by have := textZ_few q; omega
      have HSz := Lib.hid hsz
      clear hx hok hle hqo hql hsz
      go_wp2_with fail
      refine HP2.out.mono ?_
      rintro e w4 ⟨v, rfl, rfl, h6, h7⟩
      have H7 := Lib.hid (H5.out.trans h7)
      have HLf := Lib.hid (leafn_any w4 f hf0 (by omega) (textZ (ints q)) HSz.out h6.tab)
      have H6 := Lib.hid h6
      clear h6 h7 HP HP2
      go_wp2_with fail
      refine HLf.out.mono ?_
      rintro e w5 ⟨r5, rfl, h8, h9⟩
      have H8 := Lib.hid h8
      have H9 := Lib.hid h9
      have HM := Lib.hid (H7.out.trans (below_mod h9))
      have HZ := Lib.hid (res_block HM.out HI.out.1)
      have H10 := Lib.hid (H6.out.below h9)
      have HS5 := Lib.hid (show w.heap.size < w4.heap.size from by have := H7.out.size; simp at this; omega)
      clear h8 h9
      go_wp2_with (refine wpList_store_row rfl 25 (.tmp 2) (.tmp 16) rfl w.heap.size (rnC r5).toArray rfl rfl 25 zeroNd HZ.out (node_info r5) rfl H8.out.one ?_)
      refine bodyPost_ret (v := rnV r5) (results_cell_row rfl _ _ w.heap.size _ _ (0, 0) _ rfl (setRow_heap _ _ _ _ _ _ HZ.out) Tryz.underlying25 rfl (node_info r5)) rfl ?_
      refine ⟨res_mod HM.out, ?_⟩
      rw [HXp.out, HX.out]
      refine ⟨rnV r5, rfl, ⟨r5, rfl, ?_⟩, row_rdr H10.out HI.out.1⟩
      have h11 := node_after (w := w) (cs := (rnC r5).toArray) H8.out HS5.out (Nat.le_of_lt HS5.out)
      rw [leafS_text f HQ.out] at h11
      exact h11
end Go.Proofs.YthkpaelpnofbgaaGreatDoor
/-
  Layer 17 as it landed: 'and', 'or', 'not'. Over the program's own text.
-/
namespace Go.Proofs.YthkpaelpnofbgaaGreatDoor
open Go.RowKit

def NotOk (k : Nat) : Prop := ∀ (W0 w : World) (rb : Nat) (R : List Nat), Rdr W0 w rb R (8 - (k : Int)) → Calls Tryz.prog 54 #[.pointer (some ⟨rb, 0, none⟩)] w (Did W0 w rb (8 - (k : Int)) (notP k R) (NodeV (fromB w.heap.size)))
def AndOk (k : Nat) : Prop := ∀ (W0 w : World) (rb : Nat) (R : List Nat), Rdr W0 w rb R (8 - (k : Int)) → Calls Tryz.prog 40 #[.pointer (some ⟨rb, 0, none⟩)] w (Did W0 w rb (8 - (k : Int)) (andP (notP k) R) (NodeV (fromB w.heap.size)))
def OrOk (k : Nat) : Prop := ∀ (W0 w : World) (rb : Nat) (R : List Nat), Rdr W0 w rb R (8 - (k : Int)) → Calls Tryz.prog 30 #[.pointer (some ⟨rb, 0, none⟩)] w (Did W0 w rb (8 - (k : Int)) (orP (andP (notP k)) R) (NodeV (fromB w.heap.size)))
/-- How many runes are left. -/
def sliceLen : Value → Nat
  | .slice _ n _ => n
  | _ => 0
def restLen (w : World) (rb : Nat) : Nat := match w.cell? ⟨rb, 0, none⟩ with
  | some v => sliceLen v
  | none => 0
set_option maxRecDepth 100000 in
theorem Rdr.rest {W0 w : World} {rb : Nat} {R : List Nat} {op : Int} (h : Rdr W0 w rb R op) : restLen w rb = R.length := by
  obtain ⟨oa, c, h1, _⟩ := h.rd
  unfold restLen
  rw [cell_at h1 0]
  rfl
/-- The parts so far lie in a row of one's own, which no part's tree has. -/
structure Parts (W0 w wr : World) (rb : Nat) (R : List Nat) (op : Int) (ps : List Nd) (rs : List Rn) (v : Value) : Prop where
  own : NodesIn wr (w.heap.size + 1) v rs
  rd : RdNs wr (fun b => w.heap.size + 1 ≤ b ∧ v.ownBlock ≠ some b) ps rs
  ne : ps ≠ []
  rdr : Rdr W0 wr rb R op
  mod : Mod (fun k => k = rb) (w.alloc (.cells zeroNd 25)) wr
  few : ps.length + R.length ≤ 1001
set_option maxRecDepth 100000 in
theorem nodes_mod {w w' : World} {base rb : Nat} {v : Value} {l : List Rn} (h : NodesIn w base v l) (hm : Mod (fun k => k = rb) w w') (hb : rb < base) : NodesIn w' base v l := by
  refine ⟨h.1, ?_⟩
  rcases h.2 with ⟨e, h0⟩ | ⟨g, cap, cur, e, h1, h2, h3⟩
  · exact .inl ⟨e, h0⟩
  · exact .inr ⟨g, cap, cur, e, h1, (hm.block g (lt_of_heap h2) (by omega)).trans h2, h3⟩
set_option maxRecDepth 100000 in
theorem four_cells {w : World} {a b c d : Value} {t : TypeId} : ∀ (j : Nat) (u : Value), [a, b, c, d][j]? = some u → (w.alloc (.cells #[a, b, c, d] t)).cell? ((⟨w.heap.size, 0, none⟩ : Addr).add j) = some u := by
  intro j u hj
  rw [Addr.add_lit, Lib.cell_of_heap (heap_alloc_new w _)]
  simpa using hj
set_option maxRecDepth 100000 in
theorem four_one {w : World} {S : Nat → Prop} {x : Nd} {kd fd : Int} {tv kv : Value} (h : RdN w S x (kd, fd, tv, kv)) : ∀ u ∈ [Value.int .i64 kd, .int .u8 fd, tv, kv], u.oneCell' = true := by
  intro u hu
  cases h
  simp at hu
  rcases hu with rfl | rfl | rfl | rfl <;> rfl
section
variable {W0 w wr w1 w2 : World} {rb : Nat} {R R1 : List Nat} {op : Int} {ps : List Nd} {rs : List Rn} {v v' : Value} {x : Nd} {r : Rn}
set_option maxRecDepth 100000 in
/-- Its own reader has gone on. -/
theorem Parts.on (h : Parts W0 w wr rb R op ps rs v) (hrb : rb < w.heap.size) (hm : Mod (fun k => k = rb) wr w1) (hr : Rdr W0 w1 rb R1 op) (hl : R1.length ≤ R.length) : Parts W0 w w1 rb R1 op ps rs v :=
  ⟨nodes_mod h.own hm (by omega), h.rd.keep fun b h1 h2 => hm.block b h2 (by omega), h.ne, hr, h.mod.trans hm, by have := h.few; omega⟩
set_option maxRecDepth 100000 in
/-- The first part. -/
theorem Parts.first (hm : Mod (fun k => k = rb) (w.alloc (.cells zeroNd 25)) w1) (hr : Rdr W0 w1 rb R op) (hx : RdN w1 (fromB (w.heap.size + 1)) x r) (hl : R.length ≤ 1000) : Parts W0 w (w1.alloc (.cells (rnC r).toArray 25)) rb R op [x] [r] (.slice (some ⟨w1.heap.size, 0, none⟩) 1 1) := by
  have hs := hm.size
  simp at hs
  refine ⟨?_, RdNs.one ((hx.mono fun b h1 h2 => ⟨h2, fun e => ?_⟩).after below_one), by simp, hr.below below_one, hm.alloc _, by simp; omega⟩
  · refine ⟨by rw [rnsC_length], .inr ⟨w1.heap.size, 1, (rnC r).toArray, rfl, by omega, heap_alloc_new w1 _, Nat.le_refl _, by decide, rfl, ?_⟩⟩
    show (rnC r).take 4 = rnC r ++ []
    rw [List.append_nil]
    rfl
  · have e : w1.heap.size = b := Option.some.inj e
    omega
set_option maxRecDepth 100000 in
/-- One part more. -/
theorem Parts.more (h : Parts W0 w wr rb R op ps rs v) (hrb : rb < w.heap.size) (hm : Mod (fun k => k = rb) wr w1) (hr : Rdr W0 w1 rb R1 op) (hx : RdN w1 (fromB wr.heap.size) x r) (hl : R1.length < R.length) {g cap : Nat} {o : Obj}
    (hown : w2.ownsRow (w.heap.size + 1) 25 4 (.slice (some ⟨g, 0, none⟩) (rs.length + 1) cap) (rs.length + 1) (rnsC rs ++ rnC r)) (hg : (w1.alloc o).grownBy w2 v.ownBlock) (hgb : v.ownBlock = some g ∨ g = (w1.alloc o).heap.size) : Parts W0 w w2 rb R1 op (ps ++ [x]) (rs ++ [r]) (.slice (some ⟨g, 0, none⟩) (rs.length + 1) cap) := by
  have h1 := h.on hrb hm hr (Nat.le_of_lt hl)
  have hs0 := h.mod.size
  have hs1 := hm.size
  simp at hs0
  have hlt : ∀ k, v.ownBlock = some k → w.heap.size + 1 ≤ k ∧ k < wr.heap.size := fun k hk => World.ownsRow.lt h.own k hk
  have hlow : Below (w.heap.size + 1) w1 w2 := ((Below.refl _ _).alloc (by omega) _).grown hg (by simp; omega) (fun k hk => (hlt k hk).1)
  have hkeep : ∀ b, v.ownBlock ≠ some b → b < w1.heap.size → w2.heap[b]? = w1.heap[b]? := fun b hb hb2 => by
    have := hg.block b (by simp; omega) (Ne.symm hb)
    rw [this, Below.heap_alloc _ _ _ (by omega)]
  refine ⟨?_, ?_, by simp, ?_, ?_, by rw [List.length_append]; have := h.few; simp; omega⟩
  · unfold NodesIn
    rw [rnsC_append, List.length_append]
    simpa [rnsC] using hown
  · refine RdNs.snoc ?_ ?_
    · refine RdNs.mono (S := fun b => w.heap.size + 1 ≤ b ∧ v.ownBlock ≠ some b ∧ b < w1.heap.size) (fun b _ hb => ⟨hb.1, fun e => ?_⟩) (RdNs.keep (w := w1) (fun b hb hb2 => hkeep b hb.2.1 hb2) (h1.rd.mono fun b hb hb2 => ⟨hb2.1, hb2.2, hb⟩))
      have e : g = b := Option.some.inj e
      rcases hgb with hgb | hgb
      · exact hb.2.1 (by rw [hgb, e])
      · simp at hgb; omega
    · refine RdN.mono (S := fun b => wr.heap.size ≤ b ∧ b < w1.heap.size) ?_ (fun b _ hb => ⟨by omega, fun e => ?_⟩)
      · refine (hx.mono fun b hb hb2 => ⟨hb2, hb⟩).keep fun b hb hb2 => hkeep b (fun e => ?_) hb2
        have := (hlt b e).2; omega
      · have e : g = b := Option.some.inj e
        rcases hgb with hgb | hgb
        · have := (hlt g hgb).2; omega
        · simp at hgb; omega
  · exact hr.high (hlow.mono (by omega))
  · exact mod_low (h.mod.trans hm) hlow (by simp)
end
def PartsRel (W0 w : World) (rb : Nat) (op : Int) (xp : PR Nd) (F : List Nd → List Nat → PR Nd) (v : Value) (wr : World) : Prop := ∃ ps rs R', Parts W0 w wr rb R' op ps rs v ∧ xp = F ps R'
set_option maxRecDepth 100000 in
set_option maxHeartbeats 4000000 in
theorem and_of {k : Nat} (hn : NotOk k) : AndOk k := by
  intro W0 w rb R h
  obtain ⟨iN, hi, hz0, hz1, hz2⟩ := info_parts info_node
  have HIN := Lib.hid (And.intro hi (And.intro hz0 (And.intro hz1 hz2)))
  have hrb := h.lt
  have hW0 : W0.heap.size ≤ w.heap.size := h.low.size
  have hr1 := h.below (below_one (A := .cells zeroNd 25))
  have HR1 := Lib.hid hr1
  have H1 := Lib.hid (hn W0 _ rb R hr1)
  obtain ⟨op, hop⟩ : ∃ op, 8 - (k : Int) = op := ⟨_, rfl⟩
  have HNt : Hid (∀ (W0 w : World) (rb : Nat) (R : List Nat), Rdr W0 w rb R op → Calls Tryz.prog 54 #[.pointer (some ⟨rb, 0, none⟩)] w (Did W0 w rb op (notP k R) (NodeV (fromB w.heap.size)))) := Lib.hid (fun W0 w rb R h => by rw [← hop] at h ⊢; exact hn W0 w rb R h)
  obtain ⟨xp, hxp⟩ : ∃ xp, xp = andP (notP k) R := ⟨_, rfl⟩
  rw [← hxp, hop]
  rw [andP_eq] at hxp
  rw [hop] at H1
  have HXp := Lib.hid hxp
  have HI := Lib.hid (And.intro hrb hW0)
  have HL := Lib.hid h.less
  have hZ : zeroNd = #[.int .i64 0, .int .u8 0, .slice none 0 0, .slice none 0 0] := rfl
  clear hi hz0 hz1 hz2 h hrb hW0 hxp hn hr1 hop HR1
  cases hx : notP k R with
  | err c =>
    have H2 := Lib.hid (did_err H1.out hx)
    have HX := Lib.hid hx
    clear hx
    go_enter Tryz.func40, Tryz.ntmps40
    go_wp2_with fail
    refine H2.out.mono ?_
    rintro e w2 ⟨rfl, h2⟩
    exact ⟨rfl, mod_al h2, by rw [HXp.out, HX.out]; rfl⟩
  | ok n R1 =>
    have H2 := Lib.hid (did_ok H1.out hx)
    have HX := Lib.hid hx
    have HLs := Lib.hid (not_less k _ _ _ hx)
    clear hx
    go_enter Tryz.func40, Tryz.ntmps40
    go_wp2_with fail
    refine H2.out.mono ?_
    rintro e w2 ⟨v, rfl, ⟨⟨kd, fd, tv, kv⟩, rfl, hrd⟩, h3, h4⟩
    rw [show rnV (kd, fd, tv, kv) = .agg #[.int .i64 kd, .int .u8 fd, tv, kv] from rfl]
    have hz1 : (w.alloc (.cells zeroNd 25)).heap.size = w.heap.size + 1 := by simp
    rw [hz1] at hrd
    have hf := Parts.first h4 h3 hrd (by have := HLs.out; have := HL.out; omega)
    have HF0 := Lib.hid (show PartsRel W0 w rb op xp (andR k) (.slice (some ⟨w2.heap.size, 0, none⟩) 1 1) (w2.alloc (.cells #[.int .i64 kd, .int .u8 fd, tv, kv] 25)) from ⟨_, _, _, hf, by rw [HXp.out, HX.out]; rfl⟩)
    clear hrd h3 h4 hz1 hf H1 H2
    go_wp2_with fail
    go_loopw [3] (fun vo wr => PartsRel W0 w rb op xp (andR k) vo wr) (fun _ wr => restLen wr rb)
    case atStart => exact HF0.out
    case round =>
      obtain ⟨ps, rs, R', hP, hxr⟩ := hrel
      have HMr := Lib.hid hP.rdr.rest
      have HN := Lib.hid (next_any hP.rdr)
      have HP := Lib.hid hP
      rw [andR_step] at hxr
      obtain ⟨hd, hhd⟩ : ∃ hd, hd = headZ (skipB R') := ⟨_, rfl⟩
      rw [← hhd] at HN hxr
      have HHd := Lib.hid hhd
      have HDl := Lib.hid (show (skipB R').length ≤ R'.length from skipB_le R')
      clear hP hhd
      by_cases h38 : hd = 38
      · rw [if_pos h38] at hxr
        have HXr := Lib.hid hxr
        have hl1 : 1 ≤ (skipB R').length := by rw [headZ_cons (HHd.out.symm.trans h38) (by omega)]; simp
        have HL1 := Lib.hid hl1
        clear hxr hl1
        go_wp2_with fail
        refine HN.out.mono ?_
        rintro e w3 ⟨rfl, h3, h4⟩
        have HPs := Lib.hid (pass_any h3 HL1.out)
        have H4 := Lib.hid h4
        clear h3 h4 HN
        go_wp2_with fail
        refine HPs.out.mono ?_
        rintro e w4 ⟨rfl, h5, h6⟩
        have hP2 := HP.out.on HI.out.1 (H4.out.trans h6) h5 (by rw [List.length_drop]; have := HDl.out; omega)
        have HDl := Lib.hid (show ((skipB R').drop 1).length ≤ R'.length from by rw [List.length_drop]; have := HDl.out; omega)
        clear h5 h6 HP
        have HC := Lib.hid (HNt.out W0 _ rb _ hP2.rdr)
        cases hx2 : notP k ((skipB R').drop 1) with
        | err c =>
          have HC2 := Lib.hid (did_err HC.out hx2)
          have HX2 := Lib.hid hx2
          have HM := Lib.hid hP2.mod
          clear hx2 hP2
          go_wp2_with fail
          refine HC2.out.mono ?_
          rintro e w5 ⟨rfl, h5⟩
          exact ⟨rfl, mod_al (HM.out.trans h5), by rw [HXr.out, HX2.out]; rfl⟩
        | ok n R2 =>
          have HC2 := Lib.hid (did_ok HC.out hx2)
          have HX2 := Lib.hid hx2
          have HLs2 := Lib.hid (not_less k _ _ _ hx2)
          have HPa := Lib.hid hP2
          clear hx2 hP2
          go_wp2_with fail
          refine HC2.out.mono ?_
          rintro e w5 ⟨v5, rfl, ⟨⟨kd, fd, tv, kv⟩, rfl, hrd⟩, h5, h6⟩
          rw [show rnV (kd, fd, tv, kv) = .agg #[.int .i64 kd, .int .u8 fd, tv, kv] from rfl]
          have HRd := Lib.hid hrd
          have H5 := Lib.hid h5
          have H6 := Lib.hid h6
          have HO := Lib.hid (nodes_mod HPa.out.own h6 (by have := HI.out.1; omega))
          have HS := Lib.hid (show w.heap.size + 1 ≤ w5.heap.size from by have := (HPa.out.mod.trans h6).size; simpa using this)
          have HF := Lib.hid (show rs.length ≤ 1001 from by have := HPa.out.few; have := HPa.out.rd.1; omega)
          clear hrd h5 h6
          go_wp2_with (at_builtin; go_loud (refine wpList_append_lies _ rfl (.tmp 21) (.tmp 24) 23 rfl (w.heap.size + 1) 25 iN _ 4 64 Tryz.underlying23 HIN.out.1 HIN.out.2.1 HIN.out.2.2.1 HIN.out.2.2.2 rfl (by decide) _ rs.length (rnsC rs) rfl (World.ownsRow.alloc HO.out _) ⟨w5.heap.size, 0, none⟩ 1 1 [.int .i64 kd, .int .u8 fd, tv, kv] rfl rfl four_cells (four_one HRd.out) (by decide) (by have := HF.out; unfold maxLen; omega) (by have := HF.out; omega) (by have := HS.out; simp; omega) _ rfl ?_; intro g7 cap7 w7 ho7 hg7 hgb7 _; have HO7 := Lib.hid ho7; have HG7 := Lib.hid hg7; have HGb := Lib.hid hgb7; clear ho7 hg7 hgb7))
          have hmore := HPa.out.more (W0 := W0) (w2 := w7) (x := n) (r := (kd, fd, tv, kv)) HI.out.1 H6.out H5.out HRd.out HLs2.out HO7.out HG7.out HGb.out
          have hms : restLen w7 rb = R2.length := hmore.rdr.rest
          have HMo := Lib.hid hmore
          have HMs := Lib.hid hms
          clear hmore hms
          go_roundw
          case rel => exact ⟨_, _, _, HMo.out, by rw [HXr.out, HX2.out]; rfl⟩
          case measure => simp only [HMs.out, HMr.out]; have := HLs2.out; have := HDl.out; omega
      · rw [if_neg h38] at hxr
        by_cases hbg : beginB hd = true
        · rw [if_pos hbg] at hxr
          have HXr := Lib.hid hxr
          clear hxr
          go_wp2_with fail
          refine HN.out.mono ?_
          rintro e w3 ⟨rfl, h3, h4⟩
          have HBg := Lib.hid (begins_any w3 hd h3.tab)
          rw [hbg] at HBg
          have H3 := Lib.hid h3
          have H4 := Lib.hid h4
          clear h3 h4 HN hbg
          go_wp2_with fail
          refine HBg.out.mono ?_
          rintro e w4 ⟨rfl, h6⟩
          have hP2 := HP.out.on HI.out.1 (H4.out.trans (below_mod h6)) (H3.out.below h6) HDl.out
          clear h6 HP
          have HC := Lib.hid (HNt.out W0 _ rb _ hP2.rdr)
          cases hx2 : notP k (skipB R') with
          | err c =>
            have HC2 := Lib.hid (did_err HC.out hx2)
            have HX2 := Lib.hid hx2
            have HM := Lib.hid hP2.mod
            clear hx2 hP2
            go_wp2_with fail
            refine HC2.out.mono ?_
            rintro e w5 ⟨rfl, h5⟩
            exact ⟨rfl, mod_al (HM.out.trans h5), by rw [HXr.out, HX2.out]; rfl⟩
          | ok n R2 =>
            have HC2 := Lib.hid (did_ok HC.out hx2)
            have HX2 := Lib.hid hx2
            have HLs2 := Lib.hid (not_less k _ _ _ hx2)
            have HPa := Lib.hid hP2
            clear hx2 hP2
            go_wp2_with fail
            refine HC2.out.mono ?_
            rintro e w5 ⟨v5, rfl, ⟨⟨kd, fd, tv, kv⟩, rfl, hrd⟩, h5, h6⟩
            rw [show rnV (kd, fd, tv, kv) = .agg #[.int .i64 kd, .int .u8 fd, tv, kv] from rfl]
            have HRd := Lib.hid hrd
            have H5 := Lib.hid h5
            have H6 := Lib.hid h6
            have HO := Lib.hid (nodes_mod HPa.out.own h6 (by have := HI.out.1; omega))
            have HS := Lib.hid (show w.heap.size + 1 ≤ w5.heap.size from by have := (HPa.out.mod.trans h6).size; simpa using this)
            have HF := Lib.hid (show rs.length ≤ 1001 from by have := HPa.out.few; have := HPa.out.rd.1; omega)
            clear hrd h5 h6
            go_wp2_with (at_builtin; go_loud (refine wpList_append_lies _ rfl (.tmp 21) (.tmp 24) 23 rfl (w.heap.size + 1) 25 iN _ 4 64 Tryz.underlying23 HIN.out.1 HIN.out.2.1 HIN.out.2.2.1 HIN.out.2.2.2 rfl (by decide) _ rs.length (rnsC rs) rfl (World.ownsRow.alloc HO.out _) ⟨w5.heap.size, 0, none⟩ 1 1 [.int .i64 kd, .int .u8 fd, tv, kv] rfl rfl four_cells (four_one HRd.out) (by decide) (by have := HF.out; unfold maxLen; omega) (by have := HF.out; omega) (by have := HS.out; simp; omega) _ rfl ?_; intro g7 cap7 w7 ho7 hg7 hgb7 _; have HO7 := Lib.hid ho7; have HG7 := Lib.hid hg7; have HGb := Lib.hid hgb7; clear ho7 hg7 hgb7))
            have hmore := HPa.out.more (W0 := W0) (w2 := w7) (x := n) (r := (kd, fd, tv, kv)) HI.out.1 H6.out H5.out HRd.out HLs2.out HO7.out HG7.out HGb.out
            have hms : restLen w7 rb = R2.length := hmore.rdr.rest
            have HMo := Lib.hid hmore
            have HMs := Lib.hid hms
            clear hmore hms
            go_roundw
            case rel => exact ⟨_, _, _, HMo.out, by rw [HXr.out, HX2.out]; rfl⟩
            case measure => simp only [HMs.out, HMr.out]; have := HLs2.out; have := HDl.out; omega
        · rw [if_neg hbg] at hxr
          have hbf : beginB hd = false := by simpa using hbg
          have HXr := Lib.hid hxr
          clear hxr hbg
          go_wp2_with fail
          refine HN.out.mono ?_
          rintro e w3 ⟨rfl, h3, h4⟩
          have HBg := Lib.hid (begins_any w3 hd h3.tab)
          rw [hbf] at HBg
          have H3 := Lib.hid h3
          have H4 := Lib.hid h4
          clear h3 h4 HN hbf
          go_wp2_with fail
          refine HBg.out.mono ?_
          rintro e w4 ⟨rfl, h6⟩
          have hP2 := HP.out.on HI.out.1 (H4.out.trans (below_mod h6)) (H3.out.below h6) HDl.out
          clear h6 HP
          have HJ := Lib.hid (join_node _ 2 (w.heap.size + 1) _ (fromB (w.heap.size + 1)) (fun b hb => hb.1) (fun b hb => hb) _ ps rs hP2.own hP2.rd hP2.ne (by have := hP2.few; omega) (by have := hP2.mod.size; simpa using this))
          have HP2 := Lib.hid hP2
          clear hP2
          go_wp2_with fail
          refine HJ.out.mono ?_
          rintro e w6 ⟨r6, rfl, h7, h8⟩
          have H7 := Lib.hid h7
          have HM := Lib.hid (HP2.out.mod.trans (below_mod h8))
          have HZ := Lib.hid (res_block HM.out HI.out.1)
          have H10 := Lib.hid (HP2.out.rdr.below h8)
          clear h7 h8
          go_wp2_with (refine wpList_store_row rfl 25 (.tmp 2) (.tmp 20) rfl w.heap.size (rnC r6).toArray rfl rfl 25 zeroNd HZ.out (node_info r6) rfl H7.out.one ?_)
          try rw [Exit.noGoto_ret]
          refine bodyPost_ret (v := rnV r6) (results_cell_row rfl _ _ w.heap.size _ _ (0, 0) _ rfl (setRow_heap _ _ _ _ _ _ HZ.out) Tryz.underlying25 rfl (node_info r6)) rfl ?_
          refine ⟨res_mod HM.out, ?_⟩
          rw [HXr.out]
          exact ⟨rnV r6, rfl, ⟨r6, rfl, node_after H7.out (Nat.lt_succ_self _) (Nat.le_succ _)⟩, row_rdr H10.out HI.out.1⟩
set_option maxRecDepth 100000 in
set_option maxHeartbeats 4000000 in
theorem or_of {k : Nat} (hn : AndOk k) : OrOk k := by
  intro W0 w rb R h
  obtain ⟨iN, hi, hz0, hz1, hz2⟩ := info_parts info_node
  have HIN := Lib.hid (And.intro hi (And.intro hz0 (And.intro hz1 hz2)))
  have hrb := h.lt
  have hW0 : W0.heap.size ≤ w.heap.size := h.low.size
  have hr1 := h.below (below_one (A := .cells zeroNd 25))
  have HR1 := Lib.hid hr1
  have H1 := Lib.hid (hn W0 _ rb R hr1)
  obtain ⟨op, hop⟩ : ∃ op, 8 - (k : Int) = op := ⟨_, rfl⟩
  have HNt : Hid (∀ (W0 w : World) (rb : Nat) (R : List Nat), Rdr W0 w rb R op → Calls Tryz.prog 40 #[.pointer (some ⟨rb, 0, none⟩)] w (Did W0 w rb op (andP (notP k) R) (NodeV (fromB w.heap.size)))) := Lib.hid (fun W0 w rb R h => by rw [← hop] at h ⊢; exact hn W0 w rb R h)
  obtain ⟨xp, hxp⟩ : ∃ xp, xp = orP (andP (notP k)) R := ⟨_, rfl⟩
  rw [← hxp, hop]
  rw [orP_eq] at hxp
  rw [hop] at H1
  have HXp := Lib.hid hxp
  have HI := Lib.hid (And.intro hrb hW0)
  have HL := Lib.hid h.less
  have hZ : zeroNd = #[.int .i64 0, .int .u8 0, .slice none 0 0, .slice none 0 0] := rfl
  clear hi hz0 hz1 hz2 h hrb hW0 hxp hn hr1 hop HR1
  cases hx : andP (notP k) R with
  | err c =>
    have H2 := Lib.hid (did_err H1.out hx)
    have HX := Lib.hid hx
    clear hx
    go_enter Tryz.func30, Tryz.ntmps30
    go_wp2_with fail
    refine H2.out.mono ?_
    rintro e w2 ⟨rfl, h2⟩
    exact ⟨rfl, mod_al h2, by rw [HXp.out, HX.out]; rfl⟩
  | ok n R1 =>
    have H2 := Lib.hid (did_ok H1.out hx)
    have HX := Lib.hid hx
    have HLs := Lib.hid ((and_less (not_less k)) _ _ _ hx)
    clear hx
    go_enter Tryz.func30, Tryz.ntmps30
    go_wp2_with fail
    refine H2.out.mono ?_
    rintro e w2 ⟨v, rfl, ⟨⟨kd, fd, tv, kv⟩, rfl, hrd⟩, h3, h4⟩
    rw [show rnV (kd, fd, tv, kv) = .agg #[.int .i64 kd, .int .u8 fd, tv, kv] from rfl]
    have hz1 : (w.alloc (.cells zeroNd 25)).heap.size = w.heap.size + 1 := by simp
    rw [hz1] at hrd
    have hf := Parts.first h4 h3 hrd (by have := HLs.out; have := HL.out; omega)
    have HF0 := Lib.hid (show PartsRel W0 w rb op xp (orR k) (.slice (some ⟨w2.heap.size, 0, none⟩) 1 1) (w2.alloc (.cells #[.int .i64 kd, .int .u8 fd, tv, kv] 25)) from ⟨_, _, _, hf, by rw [HXp.out, HX.out]; rfl⟩)
    clear hrd h3 h4 hz1 hf H1 H2
    go_wp2_with fail
    go_loopw [3] (fun vo wr => PartsRel W0 w rb op xp (orR k) vo wr) (fun _ wr => restLen wr rb)
    case atStart => exact HF0.out
    case round =>
      obtain ⟨ps, rs, R', hP, hxr⟩ := hrel
      have HMr := Lib.hid hP.rdr.rest
      have HN := Lib.hid (next_any hP.rdr)
      have HP := Lib.hid hP
      rw [orR_step] at hxr
      obtain ⟨hd, hhd⟩ : ∃ hd, hd = headZ (skipB R') := ⟨_, rfl⟩
      rw [← hhd] at HN hxr
      have HHd := Lib.hid hhd
      have HDl := Lib.hid (show (skipB R').length ≤ R'.length from skipB_le R')
      clear hP hhd
      by_cases h38 : hd = 124
      · rw [if_pos h38] at hxr
        have HXr := Lib.hid hxr
        have hl1 : 1 ≤ (skipB R').length := by rw [headZ_cons (HHd.out.symm.trans h38) (by omega)]; simp
        have HL1 := Lib.hid hl1
        clear hxr hl1
        go_wp2_with fail
        refine HN.out.mono ?_
        rintro e w3 ⟨rfl, h3, h4⟩
        have HPs := Lib.hid (pass_any h3 HL1.out)
        have H4 := Lib.hid h4
        clear h3 h4 HN
        go_wp2_with fail
        refine HPs.out.mono ?_
        rintro e w4 ⟨rfl, h5, h6⟩
        have hP2 := HP.out.on HI.out.1 (H4.out.trans h6) h5 (by rw [List.length_drop]; have := HDl.out; omega)
        have HDl := Lib.hid (show ((skipB R').drop 1).length ≤ R'.length from by rw [List.length_drop]; have := HDl.out; omega)
        clear h5 h6 HP
        have HC := Lib.hid (HNt.out W0 _ rb _ hP2.rdr)
        cases hx2 : andP (notP k) ((skipB R').drop 1) with
        | err c =>
          have HC2 := Lib.hid (did_err HC.out hx2)
          have HX2 := Lib.hid hx2
          have HM := Lib.hid hP2.mod
          clear hx2 hP2
          go_wp2_with fail
          refine HC2.out.mono ?_
          rintro e w5 ⟨rfl, h5⟩
          exact ⟨rfl, mod_al (HM.out.trans h5), by rw [HXr.out, HX2.out]; rfl⟩
        | ok n R2 =>
          have HC2 := Lib.hid (did_ok HC.out hx2)
          have HX2 := Lib.hid hx2
          have HLs2 := Lib.hid ((and_less (not_less k)) _ _ _ hx2)
          have HPa := Lib.hid hP2
          clear hx2 hP2
          go_wp2_with fail
          refine HC2.out.mono ?_
          rintro e w5 ⟨v5, rfl, ⟨⟨kd, fd, tv, kv⟩, rfl, hrd⟩, h5, h6⟩
          rw [show rnV (kd, fd, tv, kv) = .agg #[.int .i64 kd, .int .u8 fd, tv, kv] from rfl]
          have HRd := Lib.hid hrd
          have H5 := Lib.hid h5
          have H6 := Lib.hid h6
          have HO := Lib.hid (nodes_mod HPa.out.own h6 (by have := HI.out.1; omega))
          have HS := Lib.hid (show w.heap.size + 1 ≤ w5.heap.size from by have := (HPa.out.mod.trans h6).size; simpa using this)
          have HF := Lib.hid (show rs.length ≤ 1001 from by have := HPa.out.few; have := HPa.out.rd.1; omega)
          clear hrd h5 h6
          go_wp2_with (at_builtin; go_loud (refine wpList_append_lies _ rfl (.tmp 12) (.tmp 15) 23 rfl (w.heap.size + 1) 25 iN _ 4 64 Tryz.underlying23 HIN.out.1 HIN.out.2.1 HIN.out.2.2.1 HIN.out.2.2.2 rfl (by decide) _ rs.length (rnsC rs) rfl (World.ownsRow.alloc HO.out _) ⟨w5.heap.size, 0, none⟩ 1 1 [.int .i64 kd, .int .u8 fd, tv, kv] rfl rfl four_cells (four_one HRd.out) (by decide) (by have := HF.out; unfold maxLen; omega) (by have := HF.out; omega) (by have := HS.out; simp; omega) _ rfl ?_; intro g7 cap7 w7 ho7 hg7 hgb7 _; have HO7 := Lib.hid ho7; have HG7 := Lib.hid hg7; have HGb := Lib.hid hgb7; clear ho7 hg7 hgb7))
          have hmore := HPa.out.more (W0 := W0) (w2 := w7) (x := n) (r := (kd, fd, tv, kv)) HI.out.1 H6.out H5.out HRd.out HLs2.out HO7.out HG7.out HGb.out
          have hms : restLen w7 rb = R2.length := hmore.rdr.rest
          have HMo := Lib.hid hmore
          have HMs := Lib.hid hms
          clear hmore hms
          go_roundw
          case rel => exact ⟨_, _, _, HMo.out, by rw [HXr.out, HX2.out]; rfl⟩
          case measure => simp only [HMs.out, HMr.out]; have := HLs2.out; have := HDl.out; omega
      · rw [if_neg h38] at hxr
        have hbf : (hd == 124) = false := by simp [h38]
        have HXr := Lib.hid hxr
        clear hxr
        go_wp2_with fail
        refine HN.out.mono ?_
        rintro e w3 ⟨rfl, h3, h4⟩
        have hP2 := HP.out.on HI.out.1 h4 h3 HDl.out
        clear h3 h4 HN HP
        have HJ := Lib.hid (join_node _ 3 (w.heap.size + 1) _ (fromB (w.heap.size + 1)) (fun b hb => hb.1) (fun b hb => hb) _ ps rs hP2.own hP2.rd hP2.ne (by have := hP2.few; omega) (by have := hP2.mod.size; simpa using this))
        have HP2 := Lib.hid hP2
        clear hP2
        go_wp2_with fail
        refine HJ.out.mono ?_
        rintro e w6 ⟨r6, rfl, h7, h8⟩
        have H7 := Lib.hid h7
        have HM := Lib.hid (HP2.out.mod.trans (below_mod h8))
        have HZ := Lib.hid (res_block HM.out HI.out.1)
        have H10 := Lib.hid (HP2.out.rdr.below h8)
        clear h7 h8
        go_wp2_with (refine wpList_store_row rfl 25 (.tmp 2) (.tmp 18) rfl w.heap.size (rnC r6).toArray rfl rfl 25 zeroNd HZ.out (node_info r6) rfl H7.out.one ?_)
        try rw [Exit.noGoto_ret]
        refine bodyPost_ret (v := rnV r6) (results_cell_row rfl _ _ w.heap.size _ _ (0, 0) _ rfl (setRow_heap _ _ _ _ _ _ HZ.out) Tryz.underlying25 rfl (node_info r6)) rfl ?_
        refine ⟨res_mod HM.out, ?_⟩
        rw [HXr.out]
        exact ⟨rnV r6, rfl, ⟨r6, rfl, node_after H7.out (Nat.lt_succ_self _) (Nat.le_succ _)⟩, row_rdr H10.out HI.out.1⟩
end Go.Proofs.YthkpaelpnofbgaaGreatDoor
/-
  Layer 17 as it landed: 'not', and with it all parts, however deep. Over the program's own text.
-/
namespace Go.Proofs.YthkpaelpnofbgaaGreatDoor
open Go.RowKit

set_option maxRecDepth 100000 in
theorem Rdr.shut {W0 w : World} {rb : Nat} {R : List Nat} {op : Int} (h : Rdr W0 w rb R op) (op' : Int) : Rdr W0 (w.setCell ⟨rb, 1, none⟩ (.int .i64 op')) rb R op' := by
  obtain ⟨oa, c, hh, hc, hm, hr, hb⟩ := h.rd
  exact h.turn (mod_set _) (List.suffix_refl _) (c := c) (oa := oa) (by rw [heap_setCell_same _ _ _ _ _ _ hh]; rfl) hc hm hr hb
set_option maxRecDepth 100000 in
theorem blk_ne {w : World} {g b : Nat} {o : Obj} (h : w.heap[g]? = some o) (hne : g ≠ b) (v : Value) (j : Nat) : (w.setCell ⟨b, j, none⟩ v).heap[g]? = some o := (Below.heap_setCell _ _ _ _ hne).trans h
set_option maxRecDepth 100000 in
theorem Rdr.open_ {W0 w : World} {rb : Nat} {R : List Nat} {op : Int} (h : Rdr W0 w rb R op) : w.cell? ⟨rb, 1, none⟩ = some (.int .i64 op) ∧ w.frozen? ⟨rb, 1, none⟩ = false := by
  obtain ⟨oa, c, hh, _⟩ := h.rd
  exact ⟨cell_at hh 1, free_at hh 1⟩
set_option maxRecDepth 100000 in
theorem close_ok {k : Nat} {n : Nd} {l : List Nat} (h : headZ (skipB l) = 41) : closeP k (.ok n l) = .ok n ((skipB l).drop 1) := by
  show (if _ then _ else _) = _
  rw [if_pos h]
set_option maxRecDepth 100000 in
theorem close_no {k : Nat} {n : Nd} {l : List Nat} (h : ¬ headZ (skipB l) = 41) : closeP k (.ok n l) = .err (failE k (skipB l)) := by
  show (if _ then _ else _) = _
  rw [if_neg h]
set_option maxRecDepth 100000 in
theorem head_len {l : List Nat} {c : Int} (h : headZ l = c) (h0 : 0 ≤ c) : 1 ≤ l.length := by rw [headZ_cons h h0]; simp
set_option maxRecDepth 100000 in
set_option maxHeartbeats 4000000 in
theorem not_zero : NotOk 0 := by
  intro W0 w rb R h
  have hrb := h.lt
  have HN := Lib.hid (next_any (h.below (below_one (A := .cells zeroNd 25))))
  obtain ⟨hd, hhd⟩ : ∃ hd, hd = headZ (skipB R) := ⟨_, rfl⟩
  obtain ⟨xp, hxp⟩ : ∃ xp, xp = notP 0 R := ⟨_, rfl⟩
  rw [← hxp]
  rw [notP, ← hhd] at hxp
  rw [← hhd] at HN
  have HHd := Lib.hid hhd
  have HI := Lib.hid hrb
  have hZ : zeroNd = #[.int .i64 0, .int .u8 0, .slice none 0 0, .slice none 0 0] := rfl
  clear h hrb hhd
  by_cases hdp : hd = 33 ∨ hd = 40
  · rw [if_pos hdp] at hxp
    have HXp := Lib.hid hxp
    clear hxp
    go_enter Tryz.func54, Tryz.ntmps54
    go_wp2_with fail
    refine HN.out.mono ?_
    rintro e w3 ⟨rfl, h3, h4⟩
    have HE := Lib.hid (enter_deep h3)
    have H4 := Lib.hid h4
    clear h3 h4 HN HHd
    rcases hdp with rfl | rfl
    all_goals go_wp2_with fail
    all_goals (refine HE.out.mono ?_; rintro e w4 ⟨rfl, rfl⟩; exact ⟨rfl, mod_al H4.out, by rw [HXp.out]; rfl⟩)
  · rw [if_neg hdp] at hxp
    have HXp := Lib.hid hxp
    have h33 : ¬ hd = 33 := fun e => hdp (.inl e)
    have h40 : ¬ hd = 40 := fun e => hdp (.inr e)
    clear hxp hdp
    go_enter Tryz.func54, Tryz.ntmps54
    go_wp2_with fail
    refine HN.out.mono ?_
    rintro e w3 ⟨rfl, h3, h4⟩
    have HLf := Lib.hid (leafr_any (k := 0) h3 (by omega))
    have H4 := Lib.hid h4
    have HS3 := Lib.hid (show w.heap.size + 1 ≤ w3.heap.size from by have := h4.size; simpa using this)
    clear h3 h4 HN
    cases hx : leafP 0 (skipB R) with
    | err c =>
      have HC := Lib.hid (did_err HLf.out hx)
      have HX := Lib.hid hx
      clear hx
      go_wp2_with fail
      refine HC.out.mono ?_
      rintro e w4 ⟨rfl, h5⟩
      exact ⟨rfl, mod_al (H4.out.trans h5), by rw [HXp.out, HX.out]; rfl⟩
    | ok n R1 =>
      have HC := Lib.hid (did_ok HLf.out hx)
      have HX := Lib.hid hx
      clear hx
      go_wp2_with fail
      refine HC.out.mono ?_
      rintro e w4 ⟨v, rfl, ⟨r6, rfl, hrd⟩, h5, h6⟩
      have H7 := Lib.hid hrd
      have HM := Lib.hid (H4.out.trans h6)
      have HZ := Lib.hid (res_block HM.out HI.out)
      have H10 := Lib.hid h5
      clear hrd h5 h6
      go_wp2_with (refine wpList_store_row rfl 25 (.tmp 2) (.tmp 45) rfl w.heap.size (rnC r6).toArray rfl rfl 25 zeroNd HZ.out (node_info r6) rfl H7.out.one ?_)
      refine bodyPost_ret (v := rnV r6) (results_cell_row rfl _ _ w.heap.size _ _ (0, 0) _ rfl (setRow_heap _ _ _ _ _ _ HZ.out) Tryz.underlying25 rfl (node_info r6)) rfl ?_
      refine ⟨res_mod HM.out, ?_⟩
      rw [HXp.out, HX.out]
      exact ⟨rnV r6, rfl, ⟨r6, rfl, node_after H7.out (Nat.lt_of_succ_le HS3.out) (Nat.le_of_lt (Nat.lt_of_succ_le HS3.out))⟩, row_rdr H10.out HI.out⟩
set_option maxRecDepth 100000 in
set_option maxHeartbeats 8000000 in
theorem not_succ {k : Nat} (hk : k + 1 ≤ 8) (hn : NotOk k) (ho : OrOk k) : NotOk (k + 1) := by
  intro W0 w rb R h
  have hrb := h.lt
  have HN := Lib.hid (next_any (h.below (below_one (A := .cells zeroNd 25))))
  obtain ⟨hd, hhd⟩ : ∃ hd, hd = headZ (skipB R) := ⟨_, rfl⟩
  obtain ⟨xp, hxp⟩ : ∃ xp, xp = notP (k + 1) R := ⟨_, rfl⟩
  rw [← hxp]
  rw [notP, ← hhd] at hxp
  rw [← hhd] at HN
  have HHd := Lib.hid hhd
  have HI := Lib.hid hrb
  have hZ : zeroNd = #[.int .i64 0, .int .u8 0, .slice none 0 0, .slice none 0 0] := rfl
  clear h hrb hhd
  by_cases h33 : hd = 33
  · rw [if_pos h33] at hxp
    have HXp := Lib.hid hxp
    clear hxp
    go_enter Tryz.func54, Tryz.ntmps54
    go_wp2_with fail
    refine HN.out.mono ?_
    rintro e w3 ⟨rfl, h3, h4⟩
    have HE := Lib.hid (enter_ok h3 (by omega) (by omega) (head_len (HHd.out.symm.trans h33) (by omega)))
    have H4 := Lib.hid h4
    clear h3 h4 HN
    go_wp2_with fail
    refine HE.out.mono ?_
    rintro e w4 ⟨rfl, h5, h6⟩
    rw [show (8 : Int) - ((k + 1 : Nat) : Int) + 1 = 8 - (k : Int) by omega] at h5
    have HNt := Lib.hid (hn W0 w4 rb _ h5)
    have H6 := Lib.hid (H4.out.trans h6)
    clear h5 h6 HE
    cases hx : notP k ((skipB R).drop 1) with
    | err c =>
      have HC := Lib.hid (did_err HNt.out hx)
      have HX := Lib.hid hx
      clear hx
      go_wp2_with fail
      refine HC.out.mono ?_
      rintro e w5 ⟨rfl, h7⟩
      exact ⟨rfl, mod_al (H6.out.trans h7), by rw [HXp.out, HX.out]; rfl⟩
    | ok n R1 =>
      have HC := Lib.hid (did_ok HNt.out hx)
      have HX := Lib.hid hx
      clear hx
      go_wp2_with fail
      refine HC.out.mono ?_
      rintro e w5 ⟨v, rfl, ⟨⟨kd, fd, tv, kv⟩, rfl, hrd⟩, h7, h8⟩
      obtain ⟨ta, tn, tc, ka, kn, kc, rfl, rfl⟩ := hrd.slices
      rw [show rnV (kd, fd, (.slice ta tn tc), (.slice ka kn kc)) = .agg #[.int .i64 kd, .int .u8 fd, (.slice ta tn tc), (.slice ka kn kc)] from rfl]
      have HM := Lib.hid (H6.out.trans h8)
      have HS4 := Lib.hid (show w.heap.size + 1 ≤ w4.heap.size from by have := H6.out.size; simpa using this)
      have hb5 := below_one (w := w5) (A := .cells #[.int .i64 kd, .int .u8 fd, (.slice ta tn tc), (.slice ka kn kc)] 25)
      have H7 := Lib.hid (h7.below hb5)
      have HRd := Lib.hid ((hrd.mono (S' := fun b => w4.heap.size ≤ b ∧ b < w5.heap.size) fun b h1 h2 => ⟨h2, h1⟩).after hb5)
      have HM2 := Lib.hid (HM.out.trans (below_mod hb5))
      have HBx := Lib.hid (heap_alloc_new w5 (.cells #[.int .i64 kd, .int .u8 fd, (.slice ta tn tc), (.slice ka kn kc)] 25))
      have HS5 := Lib.hid (show (w5.alloc (.cells #[.int .i64 kd, .int .u8 fd, (.slice ta tn tc), (.slice ka kn kc)] 25)).heap.size = w5.heap.size + 1 from by simp)
      have HS6 := Lib.hid (show w4.heap.size ≤ w5.heap.size from h8.size)
      clear hrd h7 h8 hb5
      go_upto_region 5 with fail
      generalize w5.alloc (.cells #[.int .i64 kd, .int .u8 fd, (.slice ta tn tc), (.slice ka kn kc)] 25) = w6 at H7 HRd HM2 HBx HS5 ⊢
      obtain ⟨q1, f1⟩ := H7.out.open_
      have hw1 : IntKind.i64.wrap (8 - (k : Int) - 1) = 8 - (k : Int) - 1 := IntWalk.i64_in _ (by omega)
      go_upto_region 6 with fail
      have hbx := blk_ne HBx.out (show w5.heap.size ≠ rb by have := HI.out; have := HS4.out; have := HS6.out; omega) (.int .i64 (8 - (k : Int) - 1)) 1
      have h9 : Rdr W0 (w6.setCell ⟨rb, 1, none⟩ (.int .i64 (8 - (k : Int) - 1))) rb R1 (8 - ((k + 1 : Nat) : Int)) := by rw [show (8 : Int) - ((k + 1 : Nat) : Int) = 8 - (k : Int) - 1 by omega]; exact H7.out.shut _
      have hm9 : Mod (fun k => k = rb) w6 (w6.setCell ⟨rb, 1, none⟩ (.int .i64 (8 - (k : Int) - 1))) := mod_set _
      have HRd9 := Lib.hid (HRd.out.mod hm9 (fun b hb => by have := HI.out; have := HS4.out; omega))
      have HM9 := Lib.hid (HM2.out.trans hm9)
      have HS9 := Lib.hid hm9.size
      have HBx9 := Lib.hid hbx
      have H9 := Lib.hid h9
      clear hbx h9 hm9 q1 f1 H7 HRd HM2 HBx hw1
      generalize w6.setCell ⟨rb, 1, none⟩ (.int .i64 (8 - (k : Int) - 1)) = w7 at H9 HRd9 HM9 HBx9 HS9 ⊢
      have HZ := Lib.hid (res_block (HM9.out.alloc (.cells #[.int .i64 kd, .int .u8 fd, .slice ta tn tc, .slice ka kn kc] 25)) HI.out)
      go_wp2_with (first
        | (refine wpList_load_row rfl 25 (.tmp 3) rfl w5.heap.size rfl 25 #[.int .i64 kd, .int .u8 fd, .slice ta tn tc, .slice ka kn kc] (0, 0) _ HBx9.out Tryz.underlying25 rfl (node_info (kd, fd, .slice ta tn tc, .slice ka kn kc)) ?_)
        | (refine wpList_store_row rfl 25 (.tmp 2) (.tmp 22) rfl w.heap.size #[.int .i64 4, .int .u8 0, .slice none 0 0, .slice (some ⟨w7.heap.size, 0, none⟩) 1 1] rfl rfl 25 zeroNd HZ.out (node_info (4, 0, .slice none 0 0, .slice (some ⟨w7.heap.size, 0, none⟩) 1 1)) rfl node_one ?_)
        | fail)
      try rw [Exit.noGoto_ret]
      refine bodyPost_ret (v := rnV (4, 0, .slice none 0 0, .slice (some ⟨w7.heap.size, 0, none⟩) 1 1)) (results_cell_row rfl _ _ w.heap.size _ _ (0, 0) _ rfl (setRow_heap _ _ _ _ _ _ HZ.out) Tryz.underlying25 rfl (node_info _)) rfl ?_
      refine ⟨res_mod (HM9.out.alloc _), ?_⟩
      rw [HXp.out, HX.out]
      have hs7 : w.heap.size + 1 ≤ w7.heap.size := by have := HS4.out; have := HS6.out; have := HS5.out; have := HS9.out; omega
      have hal := below_one (w := w7) (A := .cells #[.int .i64 kd, .int .u8 fd, .slice ta tn tc, .slice ka kn kc] 25)
      have htn := turned (S' := fromB (w.heap.size + 1)) (HRd9.out.after hal) (heap_alloc_new w7 _) (fun b hb => by have := HS4.out; unfold fromB; omega) (by unfold fromB; omega)
      exact ⟨_, rfl, ⟨_, rfl, node_after htn (Nat.lt_succ_self _) (Nat.le_succ _)⟩, row_rdr (H9.out.below hal) HI.out⟩
  · rw [if_neg h33] at hxp
    by_cases h40 : hd = 40
    · rw [if_pos h40] at hxp
      have HXp := Lib.hid hxp
      clear hxp
      go_enter Tryz.func54, Tryz.ntmps54
      go_wp2_with fail
      refine HN.out.mono ?_
      rintro e w3 ⟨rfl, h3, h4⟩
      have HE := Lib.hid (enter_ok h3 (by omega) (by omega) (head_len (HHd.out.symm.trans h40) (by omega)))
      have H4 := Lib.hid h4
      clear h3 h4 HN
      go_wp2_with fail
      refine HE.out.mono ?_
      rintro e w4 ⟨rfl, h5, h6⟩
      rw [show (8 : Int) - ((k + 1 : Nat) : Int) + 1 = 8 - (k : Int) by omega] at h5
      have HNt := Lib.hid (ho W0 w4 rb _ h5)
      have H6 := Lib.hid (H4.out.trans h6)
      clear h5 h6 HE
      cases hx : orP (andP (notP k)) ((skipB R).drop 1) with
      | err c =>
        have HC := Lib.hid (did_err HNt.out hx)
        have HX := Lib.hid hx
        clear hx
        go_wp2_with fail
        refine HC.out.mono ?_
        rintro e w5 ⟨rfl, h7⟩
        exact ⟨rfl, mod_al (H6.out.trans h7), by rw [HXp.out, HX.out]; rfl⟩
      | ok n R1 =>
        have HC := Lib.hid (did_ok HNt.out hx)
        have HX := Lib.hid hx
        clear hx
        go_wp2_with fail
        refine HC.out.mono ?_
        rintro e w5 ⟨v, rfl, ⟨⟨kd, fd, tv, kv⟩, rfl, hrd⟩, h7, h8⟩
        obtain ⟨ta, tn, tc, ka, kn, kc, rfl, rfl⟩ := hrd.slices
        rw [show rnV (kd, fd, .slice ta tn tc, .slice ka kn kc) = .agg #[.int .i64 kd, .int .u8 fd, .slice ta tn tc, .slice ka kn kc] from rfl]
        have HM := Lib.hid (H6.out.trans h8)
        have HS4 := Lib.hid (show w.heap.size + 1 ≤ w4.heap.size from by have := H6.out.size; simpa using this)
        have hb5 := below_one (w := w5) (A := .cells #[.int .i64 kd, .int .u8 fd, .slice ta tn tc, .slice ka kn kc] 25)
        have H7 := Lib.hid (h7.below hb5)
        have HRd := Lib.hid ((hrd.mono (S' := fun b => w4.heap.size ≤ b ∧ b < w5.heap.size) fun b h1 h2 => ⟨h2, h1⟩).after hb5)
        have HM2 := Lib.hid (HM.out.trans (below_mod hb5))
        have HBx := Lib.hid (heap_alloc_new w5 (.cells #[.int .i64 kd, .int .u8 fd, .slice ta tn tc, .slice ka kn kc] 25))
        have HS6 := Lib.hid (show w4.heap.size ≤ w5.heap.size from h8.size)
        clear hrd h7 h8 hb5
        go_upto_region 10 with fail
        generalize w5.alloc (.cells #[.int .i64 kd, .int .u8 fd, .slice ta tn tc, .slice ka kn kc] 25) = w6 at H7 HRd HM2 HBx ⊢
        have HN2 := Lib.hid (next_any H7.out)
        obtain ⟨h2d, hh2⟩ : ∃ h2d, h2d = headZ (skipB R1) := ⟨_, rfl⟩
        rw [← hh2] at HN2
        have HHd2 := Lib.hid hh2
        clear hh2
        by_cases h41 : h2d = 41
        · have hne : ¬ h2d ≠ 41 := fun e => e h41
          go_wp2_with fail
          refine HN2.out.mono ?_
          rintro e w7 ⟨rfl, h9, h10⟩
          have HPs := Lib.hid (pass_any h9 (head_len (HHd2.out.symm.trans h41) (by omega)))
          have H10 := Lib.hid h10
          clear h9 h10 HN2
          go_wp2_with fail
          refine HPs.out.mono ?_
          rintro e w8 ⟨rfl, h11, h12⟩
          obtain ⟨q1, f1⟩ := h11.open_
          have hm68 := H10.out.trans h12
          have hbx8 := (hm68.block w5.heap.size (lt_of_heap HBx.out) (by have := HI.out; have := HS4.out; have := HS6.out; omega)).trans HBx.out
          have HRd8 := Lib.hid (HRd.out.mod hm68 (fun b hb => by have := HI.out; have := HS4.out; omega))
          have HM8 := Lib.hid (HM2.out.trans hm68)
          have HB8 := Lib.hid hbx8
          have HR8 := Lib.hid h11
          have hw1 : IntKind.i64.wrap (8 - (k : Int) - 1) = 8 - (k : Int) - 1 := IntWalk.i64_in _ (by omega)
          clear h11 h12 hm68 hbx8 HPs
          go_upto_region 14 with fail
          have hbx9 := blk_ne HB8.out (show w5.heap.size ≠ rb by have := HI.out; have := HS4.out; have := HS6.out; omega) (.int .i64 (8 - (k : Int) - 1)) 1
          have h13 : Rdr W0 (w8.setCell ⟨rb, 1, none⟩ (.int .i64 (8 - (k : Int) - 1))) rb ((skipB R1).drop 1) (8 - ((k + 1 : Nat) : Int)) := by rw [show (8 : Int) - ((k + 1 : Nat) : Int) = 8 - (k : Int) - 1 by omega]; exact HR8.out.shut _
          have hm9 : Mod (fun k => k = rb) w8 (w8.setCell ⟨rb, 1, none⟩ (.int .i64 (8 - (k : Int) - 1))) := mod_set _
          have HRd9 := Lib.hid (HRd8.out.mod hm9 (fun b hb => by have := HI.out; have := HS4.out; omega))
          have HM9 := Lib.hid (HM8.out.trans hm9)
          have HBx9 := Lib.hid hbx9
          have H9 := Lib.hid h13
          clear hbx9 h13 hm9 q1 f1 H7 HRd HM2 HBx hw1 HR8 HRd8 HM8 HB8
          generalize w8.setCell ⟨rb, 1, none⟩ (.int .i64 (8 - (k : Int) - 1)) = w9 at H9 HRd9 HM9 HBx9 ⊢
          have HZ := Lib.hid (res_block HM9.out HI.out)
          go_wp2_with (first
            | (refine wpList_load_row rfl 25 (.tmp 4) rfl w5.heap.size rfl 25 #[.int .i64 kd, .int .u8 fd, .slice ta tn tc, .slice ka kn kc] (0, 0) _ HBx9.out Tryz.underlying25 rfl (node_info (kd, fd, .slice ta tn tc, .slice ka kn kc)) ?_)
            | (refine wpList_store_row rfl 25 (.tmp 2) (.tmp 43) rfl w.heap.size #[.int .i64 kd, .int .u8 fd, .slice ta tn tc, .slice ka kn kc] rfl rfl 25 zeroNd HZ.out (node_info (kd, fd, .slice ta tn tc, .slice ka kn kc)) rfl node_one ?_)
            | fail)
          try rw [Exit.noGoto_ret]
          refine bodyPost_ret (v := rnV (kd, fd, .slice ta tn tc, .slice ka kn kc)) (results_cell_row rfl _ _ w.heap.size _ _ (0, 0) _ rfl (setRow_heap _ _ _ _ _ _ HZ.out) Tryz.underlying25 rfl (node_info _)) rfl ?_
          refine ⟨res_mod HM9.out, ?_⟩
          rw [HXp.out, HX.out, close_ok (HHd2.out.symm.trans h41)]
          exact ⟨_, rfl, ⟨_, rfl, node_after (lo := w.heap.size + 1) (HRd9.out.mono fun b _ hb => by have := HS4.out; unfold fromB; omega) (Nat.lt_succ_self _) (Nat.le_succ _)⟩, row_rdr H9.out HI.out⟩
        · have hne : h2d ≠ 41 := h41
          have hb41 : (h2d != 41) = true := bne_iff_ne.2 h41
          go_wp2_with fail
          refine HN2.out.mono ?_
          rintro e w7 ⟨rfl, h9, h10⟩
          have HFl := Lib.hid (fail_any h9 (by omega))
          have H10 := Lib.hid (HM2.out.trans h10)
          clear h9 h10 HN2
          go_wp2_with fail
          refine HFl.out.mono ?_
          rintro e w8 ⟨rfl, h11⟩
          refine ⟨rfl, mod_al (H10.out.trans h11), ?_⟩
          rw [HXp.out, HX.out, close_no (fun e => h41 (HHd2.out.trans e))]
          rfl
    · rw [if_neg h40] at hxp
      have HXp := Lib.hid hxp
      clear hxp
      go_enter Tryz.func54, Tryz.ntmps54
      go_wp2_with fail
      refine HN.out.mono ?_
      rintro e w3 ⟨rfl, h3, h4⟩
      have HLf := Lib.hid (leafr_any (k := (k + 1)) h3 (by omega))
      have H4 := Lib.hid h4
      have HS3 := Lib.hid (show w.heap.size + 1 ≤ w3.heap.size from by have := h4.size; simpa using this)
      clear h3 h4 HN
      cases hx : leafP (k + 1) (skipB R) with
      | err c =>
        have HC := Lib.hid (did_err HLf.out hx)
        have HX := Lib.hid hx
        clear hx
        go_wp2_with fail
        refine HC.out.mono ?_
        rintro e w4 ⟨rfl, h5⟩
        exact ⟨rfl, mod_al (H4.out.trans h5), by rw [HXp.out, HX.out]; rfl⟩
      | ok n R1 =>
        have HC := Lib.hid (did_ok HLf.out hx)
        have HX := Lib.hid hx
        clear hx
        go_wp2_with fail
        refine HC.out.mono ?_
        rintro e w4 ⟨v, rfl, ⟨r6, rfl, hrd⟩, h5, h6⟩
        have H7 := Lib.hid hrd
        have HM := Lib.hid (H4.out.trans h6)
        have HZ := Lib.hid (res_block HM.out HI.out)
        have H10 := Lib.hid h5
        clear hrd h5 h6
        go_wp2_with (refine wpList_store_row rfl 25 (.tmp 2) (.tmp 45) rfl w.heap.size (rnC r6).toArray rfl rfl 25 zeroNd HZ.out (node_info r6) rfl H7.out.one ?_)
        refine bodyPost_ret (v := rnV r6) (results_cell_row rfl _ _ w.heap.size _ _ (0, 0) _ rfl (setRow_heap _ _ _ _ _ _ HZ.out) Tryz.underlying25 rfl (node_info r6)) rfl ?_
        refine ⟨res_mod HM.out, ?_⟩
        rw [HXp.out, HX.out]
        exact ⟨rnV r6, rfl, ⟨r6, rfl, node_after H7.out (Nat.lt_of_succ_le HS3.out) (Nat.le_of_lt (Nat.lt_of_succ_le HS3.out))⟩, row_rdr H10.out HI.out⟩
set_option maxRecDepth 100000 in
/-- All parts, however deep. -/
theorem all_ok : ∀ k : Nat, k ≤ 8 → NotOk k
  | 0, _ => not_zero
  | k + 1, h => not_succ h (all_ok k (by omega)) (or_of (and_of (all_ok k (by omega))))
end Go.Proofs.YthkpaelpnofbgaaGreatDoor
