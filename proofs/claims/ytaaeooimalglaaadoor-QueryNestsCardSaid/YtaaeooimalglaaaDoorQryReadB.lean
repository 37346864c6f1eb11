/-
  Layer 17 as it landed: 'and', 'or', 'not'. Over the program's own text.
-/
import Derived.Test.YtaaeooimalglaaaDoorQryReadA
namespace Go.Proofs.YtaaeooimalglaaaDoor
open Go.RowKit

def NotOk (k : Nat) : Prop := ∀ (W0 w : World) (rb : Nat) (R : List Nat), Rdr W0 w rb R (8 - (k : Int)) → Calls Tryd.prog 38 #[.pointer (some ⟨rb, 0, none⟩)] w (Did W0 w rb (8 - (k : Int)) (notP k R) (NodeV (fromB w.heap.size)))
def AndOk (k : Nat) : Prop := ∀ (W0 w : World) (rb : Nat) (R : List Nat), Rdr W0 w rb R (8 - (k : Int)) → Calls Tryd.prog 32 #[.pointer (some ⟨rb, 0, none⟩)] w (Did W0 w rb (8 - (k : Int)) (andP (notP k) R) (NodeV (fromB w.heap.size)))
def OrOk (k : Nat) : Prop := ∀ (W0 w : World) (rb : Nat) (R : List Nat), Rdr W0 w rb R (8 - (k : Int)) → Calls Tryd.prog 25 #[.pointer (some ⟨rb, 0, none⟩)] w (Did W0 w rb (8 - (k : Int)) (orP (andP (notP k)) R) (NodeV (fromB w.heap.size)))
/-- How many runes are left. -/
def sliceLen : Value → Nat
  | .slice _ n _ => n
  | _ => 0
def restLen (w : World) (rb : Nat) : Nat := match w.cell? ⟨rb, 0, none⟩ with
  | some v => sliceLen v
  | none => 0
set_option maxRecDepth 100000 in
theorem Rdr.rest {W0 w : World} {rb : Nat} {R : List Nat} {op : Int} (h : Rdr W0 w rb R op) : restLen w rb = R.length := by
  obtain ⟨oa, c, h1, _⟩ := h.rd
  unfold restLen
  rw [cell_at h1 0]
  rfl
/-- The parts so far lie in a row of one's own, which no part's tree has. -/
structure Parts (W0 w wr : World) (rb : Nat) (R : List Nat) (op : Int) (ps : List Nd) (rs : List Rn) (v : Value) : Prop where
  own : NodesIn wr (w.heap.size + 1) v rs
  rd : RdNs wr (fun b => w.heap.size + 1 ≤ b ∧ v.ownBlock ≠ some b) ps rs
  ne : ps ≠ []
  rdr : Rdr W0 wr rb R op
  mod : Mod (fun k => k = rb) (w.alloc (.cells zeroNd 26)) wr
  few : ps.length + R.length ≤ 1001
set_option maxRecDepth 100000 in
theorem nodes_mod {w w' : World} {base rb : Nat} {v : Value} {l : List Rn} (h : NodesIn w base v l) (hm : Mod (fun k => k = rb) w w') (hb : rb < base) : NodesIn w' base v l := by
  refine ⟨h.1, ?_⟩
  rcases h.2 with ⟨e, h0⟩ | ⟨g, cap, cur, e, h1, h2, h3⟩
  · exact .inl ⟨e, h0⟩
  · exact .inr ⟨g, cap, cur, e, h1, (hm.block g (lt_of_heap h2) (by omega)).trans h2, h3⟩
set_option maxRecDepth 100000 in
theorem four_cells {w : World} {a b c d : Value} {t : TypeId} : ∀ (j : Nat) (u : Value), [a, b, c, d][j]? = some u → (w.alloc (.cells #[a, b, c, d] t)).cell? ((⟨w.heap.size, 0, none⟩ : Addr).add j) = some u := by
  intro j u hj
  rw [Addr.add_lit, Lib.cell_of_heap (heap_alloc_new w _)]
  simpa using hj
set_option maxRecDepth 100000 in
theorem four_one {w : World} {S : Nat → Prop} {x : Nd} {kd fd : Int} {tv kv : Value} (h : RdN w S x (kd, fd, tv, kv)) : ∀ u ∈ [Value.int .i64 kd, .int .u8 fd, tv, kv], u.oneCell' = true := by
  intro u hu
  cases h
  simp at hu
  rcases hu with rfl | rfl | rfl | rfl <;> rfl
section
variable {W0 w wr w1 w2 : World} {rb : Nat} {R R1 : List Nat} {op : Int} {ps : List Nd} {rs : List Rn} {v v' : Value} {x : Nd} {r : Rn}
set_option maxRecDepth 100000 in
/-- Its own reader has gone on. -/
theorem Parts.on (h : Parts W0 w wr rb R op ps rs v) (hrb : rb < w.heap.size) (hm : Mod (fun k => k = rb) wr w1) (hr : Rdr W0 w1 rb R1 op) (hl : R1.length ≤ R.length) : Parts W0 w w1 rb R1 op ps rs v :=
  ⟨nodes_mod h.own hm (by omega), h.rd.keep fun b h1 h2 => hm.block b h2 (by omega), h.ne, hr, h.mod.trans hm, by have := h.few; omega⟩
set_option maxRecDepth 100000 in
/-- The first part. -/
theorem Parts.first (hm : Mod (fun k => k = rb) (w.alloc (.cells zeroNd 26)) w1) (hr : Rdr W0 w1 rb R op) (hx : RdN w1 (fromB (w.heap.size + 1)) x r) (hl : R.length ≤ 1000) : Parts W0 w (w1.alloc (.cells (rnC r).toArray 26)) rb R op [x] [r] (.slice (some ⟨w1.heap.size, 0, none⟩) 1 1) := by
  have hs := hm.size
  simp at hs
  refine ⟨?_, RdNs.one ((hx.mono fun b h1 h2 => ⟨h2, fun e => ?_⟩).after below_one), by simp, hr.below below_one, hm.alloc _, by simp; omega⟩
  · refine ⟨by rw [rnsC_length], .inr ⟨w1.heap.size, 1, (rnC r).toArray, rfl, by omega, heap_alloc_new w1 _, Nat.le_refl _, by decide, rfl, ?_⟩⟩
    show (rnC r).take 4 = rnC r ++ []
    rw [List.append_nil]
    rfl
  · have e : w1.heap.size = b := Option.some.inj e
    omega
set_option maxRecDepth 100000 in
/-- One part more. -/
theorem Parts.more (h : Parts W0 w wr rb R op ps rs v) (hrb : rb < w.heap.size) (hm : Mod (fun k => k = rb) wr w1) (hr : Rdr W0 w1 rb R1 op) (hx : RdN w1 (fromB wr.heap.size) x r) (hl : R1.length < R.length) {g cap : Nat} {o : Obj}
    (hown : w2.ownsRow (w.heap.size + 1) 26 4 (.slice (some ⟨g, 0, none⟩) (rs.length + 1) cap) (rs.length + 1) (rnsC rs ++ rnC r)) (hg : (w1.alloc o).grownBy w2 v.ownBlock) (hgb : v.ownBlock = some g ∨ g = (w1.alloc o).heap.size) : Parts W0 w w2 rb R1 op (ps ++ [x]) (rs ++ [r]) (.slice (some ⟨g, 0, none⟩) (rs.length + 1) cap) := by
  have h1 := h.on hrb hm hr (Nat.le_of_lt hl)
  have hs0 := h.mod.size
  have hs1 := hm.size
  simp at hs0
  have hlt : ∀ k, v.ownBlock = some k → w.heap.size + 1 ≤ k ∧ k < wr.heap.size := fun k hk => World.ownsRow.lt h.own k hk
  have hlow : Below (w.heap.size + 1) w1 w2 := ((Below.refl _ _).alloc (by omega) _).grown hg (by simp; omega) (fun k hk => (hlt k hk).1)
  have hkeep : ∀ b, v.ownBlock ≠ some b → b < w1.heap.size → w2.heap[b]? = w1.heap[b]? := fun b hb hb2 => by
    have := hg.block b (by simp; omega) (Ne.symm hb)
    rw [this, Below.heap_alloc _ _ _ (by omega)]
  refine ⟨?_, ?_, by simp, ?_, ?_, by rw [List.length_append]; have := h.few; simp; omega⟩
  · unfold NodesIn
    rw [rnsC_append, List.length_append]
    simpa [rnsC] using hown
  · refine RdNs.snoc ?_ ?_
    · refine RdNs.mono (S := fun b => w.heap.size + 1 ≤ b ∧ v.ownBlock ≠ some b ∧ b < w1.heap.size) (fun b _ hb => ⟨hb.1, fun e => ?_⟩) (RdNs.keep (w := w1) (fun b hb hb2 => hkeep b hb.2.1 hb2) (h1.rd.mono fun b hb hb2 => ⟨hb2.1, hb2.2, hb⟩))
      have e : g = b := Option.some.inj e
      rcases hgb with hgb | hgb
      · exact hb.2.1 (by rw [hgb, e])
      · simp at hgb; omega
    · refine RdN.mono (S := fun b => wr.heap.size ≤ b ∧ b < w1.heap.size) ?_ (fun b _ hb => ⟨by omega, fun e => ?_⟩)
      · refine (hx.mono fun b hb hb2 => ⟨hb2, hb⟩).keep fun b hb hb2 => hkeep b (fun e => ?_) hb2
        have := (hlt b e).2; omega
      · have e : g = b := Option.some.inj e
        rcases hgb with hgb | hgb
        · have := (hlt g hgb).2; omega
        · simp at hgb; omega
  · exact hr.high (hlow.mono (by omega))
  · exact mod_low (h.mod.trans hm) hlow (by simp)
end
def PartsRel (W0 w : World) (rb : Nat) (op : Int) (xp : PR Nd) (F : List Nd → List Nat → PR Nd) (v : Value) (wr : World) : Prop := ∃ ps rs R', Parts W0 w wr rb R' op ps rs v ∧ xp = F ps R'
set_option maxRecDepth 100000 in
set_option maxHeartbeats 4000000 in
theorem and_of {k : Nat} (hn : NotOk k) : AndOk k := by
  intro W0 w rb R h
  obtain ⟨iN, hi, hz0, hz1, hz2⟩ := info_parts info_node
  have HIN := Lib.hid (And.intro hi (And.intro hz0 (And.intro hz1 hz2)))
  have hrb := h.lt
  have hW0 : W0.heap.size ≤ w.heap.size := h.low.size
  have hr1 := h.below (below_one (A := .cells zeroNd 26))
  have HR1 := Lib.hid hr1
  have H1 := Lib.hid (hn W0 _ rb R hr1)
  obtain ⟨op, hop⟩ : ∃ op, 8 - (k : Int) = op := ⟨_, rfl⟩
  have HNt : Hid (∀ (W0 w : World) (rb : Nat) (R : List Nat), Rdr W0 w rb R op → Calls Tryd.prog 38 #[.pointer (some ⟨rb, 0, none⟩)] w (Did W0 w rb op (notP k R) (NodeV (fromB w.heap.size)))) := Lib.hid (fun W0 w rb R h => by rw [← hop] at h ⊢; exact hn W0 w rb R h)
  obtain ⟨xp, hxp⟩ : ∃ xp, xp = andP (notP k) R := ⟨_, rfl⟩
  rw [← hxp, hop]
  rw [andP_eq] at hxp
  rw [hop] at H1
  have HXp := Lib.hid hxp
  have HI := Lib.hid (And.intro hrb hW0)
  have HL := Lib.hid h.less
  have hZ : zeroNd = #[.int .i64 0, .int .u8 0, .slice none 0 0, .slice none 0 0] := rfl
  clear hi hz0 hz1 hz2 h hrb hW0 hxp hn hr1 hop HR1
  cases hx : notP k R with
  | err c =>
    have H2 := Lib.hid (did_err H1.out hx)
    have HX := Lib.hid hx
    clear hx
    go_enter Tryd.func32, Tryd.ntmps32
    go_wp2_with fail
    refine H2.out.mono ?_
    rintro e w2 ⟨rfl, h2⟩
    exact ⟨rfl, mod_al h2, by rw [HXp.out, HX.out]; rfl⟩
  | ok n R1 =>
    have H2 := Lib.hid (did_ok H1.out hx)
    have HX := Lib.hid hx
    have HLs := Lib.hid (not_less k _ _ _ hx)
    clear hx
    go_enter Tryd.func32, Tryd.ntmps32
    go_wp2_with fail
    refine H2.out.mono ?_
    rintro e w2 ⟨v, rfl, ⟨⟨kd, fd, tv, kv⟩, rfl, hrd⟩, h3, h4⟩
    rw [show rnV (kd, fd, tv, kv) = .agg #[.int .i64 kd, .int .u8 fd, tv, kv] from rfl]
    have hz1 : (w.alloc (.cells zeroNd 26)).heap.size = w.heap.size + 1 := by simp
    rw [hz1] at hrd
    have hf := Parts.first h4 h3 hrd (by have := HLs.out; have := HL.out; omega)
    have HF0 := Lib.hid (show PartsRel W0 w rb op xp (andR k) (.slice (some ⟨w2.heap.size, 0, none⟩) 1 1) (w2.alloc (.cells #[.int .i64 kd, .int .u8 fd, tv, kv] 26)) from ⟨_, _, _, hf, by rw [HXp.out, HX.out]; rfl⟩)
    clear hrd h3 h4 hz1 hf H1 H2
    go_wp2_with fail
    go_loopw [3] (fun vo wr => PartsRel W0 w rb op xp (andR k) vo wr) (fun _ wr => restLen wr rb)
    case atStart => exact HF0.out
    case round =>
      obtain ⟨ps, rs, R', hP, hxr⟩ := hrel
      have HMr := Lib.hid hP.rdr.rest
      have HN := Lib.hid (next_any hP.rdr)
      have HP := Lib.hid hP
      rw [andR_step] at hxr
      obtain ⟨hd, hhd⟩ : ∃ hd, hd = headZ (skipB R') := ⟨_, rfl⟩
      rw [← hhd] at HN hxr
      have HHd := Lib.hid hhd
      have HDl := Lib.hid (show (skipB R').length ≤ R'.length from skipB_le R')
      clear hP hhd
      by_cases h38 : hd = 38
      · rw [if_pos h38] at hxr
        have HXr := Lib.hid hxr
        have hl1 : 1 ≤ (skipB R').length := by rw [headZ_cons (HHd.out.symm.trans h38) (by omega)]; simp
        have HL1 := Lib.hid hl1
        clear hxr hl1
        go_wp2_with fail
        refine HN.out.mono ?_
        rintro e w3 ⟨rfl, h3, h4⟩
        have HPs := Lib.hid (pass_any h3 HL1.out)
        have H4 := Lib.hid h4
        clear h3 h4 HN
        go_wp2_with fail
        refine HPs.out.mono ?_
        rintro e w4 ⟨rfl, h5, h6⟩
        have hP2 := HP.out.on HI.out.1 (H4.out.trans h6) h5 (by rw [List.length_drop]; have := HDl.out; omega)
        have HDl := Lib.hid (show ((skipB R').drop 1).length ≤ R'.length from by rw [List.length_drop]; have := HDl.out; omega)
        clear h5 h6 HP
        have HC := Lib.hid (HNt.out W0 _ rb _ hP2.rdr)
        cases hx2 : notP k ((skipB R').drop 1) with
        | err c =>
          have HC2 := Lib.hid (did_err HC.out hx2)
          have HX2 := Lib.hid hx2
          have HM := Lib.hid hP2.mod
          clear hx2 hP2
          go_wp2_with fail
          refine HC2.out.mono ?_
          rintro e w5 ⟨rfl, h5⟩
          exact ⟨rfl, mod_al (HM.out.trans h5), by rw [HXr.out, HX2.out]; rfl⟩
        | ok n R2 =>
          have HC2 := Lib.hid (did_ok HC.out hx2)
          have HX2 := Lib.hid hx2
          have HLs2 := Lib.hid (not_less k _ _ _ hx2)
          have HPa := Lib.hid hP2
          clear hx2 hP2
          go_wp2_with fail
          refine HC2.out.mono ?_
          rintro e w5 ⟨v5, rfl, ⟨⟨kd, fd, tv, kv⟩, rfl, hrd⟩, h5, h6⟩
          rw [show rnV (kd, fd, tv, kv) = .agg #[.int .i64 kd, .int .u8 fd, tv, kv] from rfl]
          have HRd := Lib.hid hrd
          have H5 := Lib.hid h5
          have H6 := Lib.hid h6
          have HO := Lib.hid (nodes_mod HPa.out.own h6 (by have := HI.out.1; omega))
          have HS := Lib.hid (show w.heap.size + 1 ≤ w5.heap.size from by have := (HPa.out.mod.trans h6).size; simpa using this)
          have HF := Lib.hid (show rs.length ≤ 1001 from by have := HPa.out.few; have := HPa.out.rd.1; omega)
          clear hrd h5 h6
          go_wp2_with (at_builtin; go_loud (refine wpList_append_lies _ rfl (.tmp 21) (.tmp 24) 24 rfl (w.heap.size + 1) 26 iN _ 4 64 Tryd.underlying24 HIN.out.1 HIN.out.2.1 HIN.out.2.2.1 HIN.out.2.2.2 rfl (by decide) _ rs.length (rnsC rs) rfl (World.ownsRow.alloc HO.out _) ⟨w5.heap.size, 0, none⟩ 1 1 [.int .i64 kd, .int .u8 fd, tv, kv] rfl rfl four_cells (four_one HRd.out) (by decide) (by have := HF.out; unfold maxLen; omega) (by have := HF.out; omega) (by have := HS.out; simp; omega) _ rfl ?_; intro g7 cap7 w7 ho7 hg7 hgb7 _; have HO7 := Lib.hid ho7; have HG7 := Lib.hid hg7; have HGb := Lib.hid hgb7; clear ho7 hg7 hgb7))
          have hmore := HPa.out.more (W0 := W0) (w2 := w7) (x := n) (r := (kd, fd, tv, kv)) HI.out.1 H6.out H5.out HRd.out HLs2.out HO7.out HG7.out HGb.out
          have hms : restLen w7 rb = R2.length := hmore.rdr.rest
          have HMo := Lib.hid hmore
          have HMs := Lib.hid hms
          clear hmore hms
          go_roundw
          case rel => exact ⟨_, _, _, HMo.out, by rw [HXr.out, HX2.out]; rfl⟩
          case measure => simp only [HMs.out, HMr.out]; have := HLs2.out; have := HDl.out; omega
      · rw [if_neg h38] at hxr
        by_cases hbg : beginB hd = true
        · rw [if_pos hbg] at hxr
          have HXr := Lib.hid hxr
          clear hxr
          go_wp2_with fail
          refine HN.out.mono ?_
          rintro e w3 ⟨rfl, h3, h4⟩
          have HBg := Lib.hid (begins_any w3 hd h3.tab)
          rw [hbg] at HBg
          have H3 := Lib.hid h3
          have H4 := Lib.hid h4
          clear h3 h4 HN hbg
          go_wp2_with fail
          refine HBg.out.mono ?_
          rintro e w4 ⟨rfl, h6⟩
          have hP2 := HP.out.on HI.out.1 (H4.out.trans (below_mod h6)) (H3.out.below h6) HDl.out
          clear h6 HP
          have HC := Lib.hid (HNt.out W0 _ rb _ hP2.rdr)
          cases hx2 : notP k (skipB R') with
          | err c =>
            have HC2 := Lib.hid (did_err HC.out hx2)
            have HX2 := Lib.hid hx2
            have HM := Lib.hid hP2.mod
            clear hx2 hP2
            go_wp2_with fail
            refine HC2.out.mono ?_
            rintro e w5 ⟨rfl, h5⟩
            exact ⟨rfl, mod_al (HM.out.trans h5), by rw [HXr.out, HX2.out]; rfl⟩
          | ok n R2 =>
            have HC2 := Lib.hid (did_ok HC.out hx2)
            have HX2 := Lib.hid hx2
            have HLs2 := Lib.hid (not_less k _ _ _ hx2)
            have HPa := Lib.hid hP2
            clear hx2 hP2
            go_wp2_with fail
            refine HC2.out.mono ?_
            rintro e w5 ⟨v5, rfl, ⟨⟨kd, fd, tv, kv⟩, rfl, hrd⟩, h5, h6⟩
            rw [show rnV (kd, fd, tv, kv) = .agg #[.int .i64 kd, .int .u8 fd, tv, kv] from rfl]
            have HRd := Lib.hid hrd
            have H5 := Lib.hid h5
            have H6 := Lib.hid h6
            have HO := Lib.hid (nodes_mod HPa.out.own h6 (by have := HI.out.1; omega))
            have HS := Lib.hid (show w.heap.size + 1 ≤ w5.heap.size from by have := (HPa.out.mod.trans h6).size; simpa using this)
            have HF := Lib.hid (show rs.length ≤ 1001 from by have := HPa.out.few; have := HPa.out.rd.1; omega)
            clear hrd h5 h6
            go_wp2_with (at_builtin; go_loud (refine wpList_append_lies _ rfl (.tmp 21) (.tmp 24) 24 rfl (w.heap.size + 1) 26 iN _ 4 64 Tryd.underlying24 HIN.out.1 HIN.out.2.1 HIN.out.2.2.1 HIN.out.2.2.2 rfl (by decide) _ rs.length (rnsC rs) rfl (World.ownsRow.alloc HO.out _) ⟨w5.heap.size, 0, none⟩ 1 1 [.int .i64 kd, .int .u8 fd, tv, kv] rfl rfl four_cells (four_one HRd.out) (by decide) (by have := HF.out; unfold maxLen; omega) (by have := HF.out; omega) (by have := HS.out; simp; omega) _ rfl ?_; intro g7 cap7 w7 ho7 hg7 hgb7 _; have HO7 := Lib.hid ho7; have HG7 := Lib.hid hg7; have HGb := Lib.hid hgb7; clear ho7 hg7 hgb7))
            have hmore := HPa.out.more (W0 := W0) (w2 := w7) (x := n) (r := (kd, fd, tv, kv)) HI.out.1 H6.out H5.out HRd.out HLs2.out HO7.out HG7.out HGb.out
            have hms : restLen w7 rb = R2.length := hmore.rdr.rest
            have HMo := Lib.hid hmore
            have HMs := Lib.hid hms
            clear hmore hms
            go_roundw
            case rel => exact ⟨_, _, _, HMo.out, by rw [HXr.out, HX2.out]; rfl⟩
            case measure => simp only [HMs.out, HMr.out]; have := HLs2.out; have := HDl.out; omega
        · rw [if_neg hbg] at hxr
          have hbf : beginB hd = false := by simpa using hbg
          have HXr := Lib.hid hxr
          clear hxr hbg
          go_wp2_with fail
          refine HN.out.mono ?_
          rintro e w3 ⟨rfl, h3, h4⟩
          have HBg := Lib.hid (begins_any w3 hd h3.tab)
          rw [hbf] at HBg
          have H3 := Lib.hid h3
          have H4 := Lib.hid h4
          clear h3 h4 HN hbf
          go_wp2_with fail
          refine HBg.out.mono ?_
          rintro e w4 ⟨rfl, h6⟩
          have hP2 := HP.out.on HI.out.1 (H4.out.trans (below_mod h6)) (H3.out.below h6) HDl.out
          clear h6 HP
          have HJ := Lib.hid (join_node _ 2 (w.heap.size + 1) _ (fromB (w.heap.size + 1)) (fun b hb => hb.1) (fun b hb => hb) _ ps rs hP2.own hP2.rd hP2.ne (by have := hP2.few; omega) (by have := hP2.mod.size; simpa using this))
          have HP2 := Lib.hid hP2
          clear hP2
          go_wp2_with fail
          refine HJ.out.mono ?_
          rintro e w6 ⟨r6, rfl, h7, h8⟩
          have H7 := Lib.hid h7
          have HM := Lib.hid (HP2.out.mod.trans (below_mod h8))
          have HZ := Lib.hid (res_block HM.out HI.out.1)
          have H10 := Lib.hid (HP2.out.rdr.below h8)
          clear h7 h8
          go_wp2_with (refine wpList_store_row rfl 26 (.tmp 2) (.tmp 20) rfl w.heap.size (rnC r6).toArray rfl rfl 26 zeroNd HZ.out (node_info r6) rfl H7.out.one ?_)
          try rw [Exit.noGoto_ret]
          refine bodyPost_ret (v := rnV r6) (results_cell_row rfl _ _ w.heap.size _ _ (0, 0) _ rfl (setRow_heap _ _ _ _ _ _ HZ.out) Tryd.underlying26 rfl (node_info r6)) rfl ?_
          refine ⟨res_mod HM.out, ?_⟩
          rw [HXr.out]
          exact ⟨rnV r6, rfl, ⟨r6, rfl, node_after H7.out (Nat.lt_succ_self _) (Nat.le_succ _)⟩, row_rdr H10.out HI.out.1⟩
set_option maxRecDepth 100000 in
set_option maxHeartbeats 4000000 in
theorem or_of {k : Nat} (hn : AndOk k) : OrOk k := by
  intro W0 w rb R h
  obtain ⟨iN, hi, hz0, hz1, hz2⟩ := info_parts info_node
  have HIN := Lib.hid (And.intro hi (And.intro hz0 (And.intro hz1 hz2)))
  have hrb := h.lt
  have hW0 : W0.heap.size ≤ w.heap.size := h.low.size
  have hr1 := h.below (below_one (A := .cells zeroNd 26))
  have HR1 := Lib.hid hr1
  have H1 := Lib.hid (hn W0 _ rb R hr1)
  obtain ⟨op, hop⟩ : ∃ op, 8 - (k : Int) = op := ⟨_, rfl⟩
  have HNt : Hid (∀ (W0 w : World) (rb : Nat) (R : List Nat), Rdr W0 w rb R op → Calls Tryd.prog 32 #[.pointer (some ⟨rb, 0, none⟩)] w (Did W0 w rb op (andP (notP k) R) (NodeV (fromB w.heap.size)))) := Lib.hid (fun W0 w rb R h => by rw [← hop] at h ⊢; exact hn W0 w rb R h)
  obtain ⟨xp, hxp⟩ : ∃ xp, xp = orP (andP (notP k)) R := ⟨_, rfl⟩
  rw [← hxp, hop]
  rw [orP_eq] at hxp
  rw [hop] at H1
  have HXp := Lib.hid hxp
  have HI := Lib.hid (And.intro hrb hW0)
  have HL := Lib.hid h.less
  have hZ : zeroNd = #[.int .i64 0, .int .u8 0, .slice none 0 0, .slice none 0 0] := rfl
  clear hi hz0 hz1 hz2 h hrb hW0 hxp hn hr1 hop HR1
  cases hx : andP (notP k) R with
  | err c =>
    have H2 := Lib.hid (did_err H1.out hx)
    have HX := Lib.hid hx
    clear hx
    go_enter Tryd.func25, Tryd.ntmps25
    go_wp2_with fail
    refine H2.out.mono ?_
    rintro e w2 ⟨rfl, h2⟩
    exact ⟨rfl, mod_al h2, by rw [HXp.out, HX.out]; rfl⟩
  | ok n R1 =>
    have H2 := Lib.hid (did_ok H1.out hx)
    have HX := Lib.hid hx
    have HLs := Lib.hid ((and_less (not_less k)) _ _ _ hx)
    clear hx
    go_enter Tryd.func25, Tryd.ntmps25
    go_wp2_with fail
    refine H2.out.mono ?_
    rintro e w2 ⟨v, rfl, ⟨⟨kd, fd, tv, kv⟩, rfl, hrd⟩, h3, h4⟩
    rw [show rnV (kd, fd, tv, kv) = .agg #[.int .i64 kd, .int .u8 fd, tv, kv] from rfl]
    have hz1 : (w.alloc (.cells zeroNd 26)).heap.size = w.heap.size + 1 := by simp
    rw [hz1] at hrd
    have hf := Parts.first h4 h3 hrd (by have := HLs.out; have := HL.out; omega)
    have HF0 := Lib.hid (show PartsRel W0 w rb op xp (orR k) (.slice (some ⟨w2.heap.size, 0, none⟩) 1 1) (w2.alloc (.cells #[.int .i64 kd, .int .u8 fd, tv, kv] 26)) from ⟨_, _, _, hf, by rw [HXp.out, HX.out]; rfl⟩)
    clear hrd h3 h4 hz1 hf H1 H2
    go_wp2_with fail
    go_loopw [3] (fun vo wr => PartsRel W0 w rb op xp (orR k) vo wr) (fun _ wr => restLen wr rb)
    case atStart => exact HF0.out
    case round =>
      obtain ⟨ps, rs, R', hP, hxr⟩ := hrel
      have HMr := Lib.hid hP.rdr.rest
      have HN := Lib.hid (next_any hP.rdr)
      have HP := Lib.hid hP
      rw [orR_step] at hxr
      obtain ⟨hd, hhd⟩ : ∃ hd, hd = headZ (skipB R') := ⟨_, rfl⟩
      rw [← hhd] at HN hxr
      have HHd := Lib.hid hhd
      have HDl := Lib.hid (show (skipB R').length ≤ R'.length from skipB_le R')
      clear hP hhd
      by_cases h38 : hd = 124
      · rw [if_pos h38] at hxr
        have HXr := Lib.hid hxr
        have hl1 : 1 ≤ (skipB R').length := by rw [headZ_cons (HHd.out.symm.trans h38) (by omega)]; simp
        have HL1 := Lib.hid hl1
        clear hxr hl1
        go_wp2_with fail
        refine HN.out.mono ?_
        rintro e w3 ⟨rfl, h3, h4⟩
        have HPs := Lib.hid (pass_any h3 HL1.out)
        have H4 := Lib.hid h4
        clear h3 h4 HN
        go_wp2_with fail
        refine HPs.out.mono ?_
        rintro e w4 ⟨rfl, h5, h6⟩
        have hP2 := HP.out.on HI.out.1 (H4.out.trans h6) h5 (by rw [List.length_drop]; have := HDl.out; omega)
        have HDl := Lib.hid (show ((skipB R').drop 1).length ≤ R'.length from by rw [List.length_drop]; have := HDl.out; omega)
        clear h5 h6 HP
        have HC := Lib.hid (HNt.out W0 _ rb _ hP2.rdr)
        cases hx2 : andP (notP k) ((skipB R').drop 1) with
        | err c =>
          have HC2 := Lib.hid (did_err HC.out hx2)
          have HX2 := Lib.hid hx2
          have HM := Lib.hid hP2.mod
          clear hx2 hP2
          go_wp2_with fail
          refine HC2.out.mono ?_
          rintro e w5 ⟨rfl, h5⟩
          exact ⟨rfl, mod_al (HM.out.trans h5), by rw [HXr.out, HX2.out]; rfl⟩
        | ok n R2 =>
          have HC2 := Lib.hid (did_ok HC.out hx2)
          have HX2 := Lib.hid hx2
          have HLs2 := Lib.hid ((and_less (not_less k)) _ _ _ hx2)
          have HPa := Lib.hid hP2
          clear hx2 hP2
          go_wp2_with fail
          refine HC2.out.mono ?_
          rintro e w5 ⟨v5, rfl, ⟨⟨kd, fd, tv, kv⟩, rfl, hrd⟩, h5, h6⟩
          rw [show rnV (kd, fd, tv, kv) = .agg #[.int .i64 kd, .int .u8 fd, tv, kv] from rfl]
          have HRd := Lib.hid hrd
          have H5 := Lib.hid h5
          have H6 := Lib.hid h6
          have HO := Lib.hid (nodes_mod HPa.out.own h6 (by have := HI.out.1; omega))
          have HS := Lib.hid (show w.heap.size + 1 ≤ w5.heap.size from by have := (HPa.out.mod.trans h6).size; simpa using this)
          have HF := Lib.hid (show rs.length ≤ 1001 from by have := HPa.out.few; have := HPa.out.rd.1; omega)
          clear hrd h5 h6
          go_wp2_with (at_builtin; go_loud (refine wpList_append_lies _ rfl (.tmp 12) (.tmp 15) 24 rfl (w.heap.size + 1) 26 iN _ 4 64 Tryd.underlying24 HIN.out.1 HIN.out.2.1 HIN.out.2.2.1 HIN.out.2.2.2 rfl (by decide) _ rs.length (rnsC rs) rfl (World.ownsRow.alloc HO.out _) ⟨w5.heap.size, 0, none⟩ 1 1 [.int .i64 kd, .int .u8 fd, tv, kv] rfl rfl four_cells (four_one HRd.out) (by decide) (by have := HF.out; unfold maxLen; omega) (by have := HF.out; omega) (by have := HS.out; simp; omega) _ rfl ?_; intro g7 cap7 w7 ho7 hg7 hgb7 _; have HO7 := Lib.hid ho7; have HG7 := Lib.hid hg7; have HGb := Lib.hid hgb7; clear ho7 hg7 hgb7))
          have hmore := HPa.out.more (W0 := W0) (w2 := w7) (x := n) (r := (kd, fd, tv, kv)) HI.out.1 H6.out H5.out HRd.out HLs2.out HO7.out HG7.out HGb.out
          have hms : restLen w7 rb = R2.length := hmore.rdr.rest
          have HMo := Lib.hid hmore
          have HMs := Lib.hid hms
          clear hmore hms
          go_roundw
          case rel => exact ⟨_, _, _, HMo.out, by rw [HXr.out, HX2.out]; rfl⟩
          case measure => simp only [HMs.out, HMr.out]; have := HLs2.out; have := HDl.out; omega
      · rw [if_neg h38] at hxr
        have hbf : (hd == 124) = false := by simp [h38]
        have HXr := Lib.hid hxr
        clear hxr
        go_wp2_with fail
        refine HN.out.mono ?_
        rintro e w3 ⟨rfl, h3, h4⟩
        have hP2 := HP.out.on HI.out.1 h4 h3 HDl.out
        clear h3 h4 HN HP
        have HJ := Lib.hid (join_node _ 3 (w.heap.size + 1) _ (fromB (w.heap.size + 1)) (fun b hb => hb.1) (fun b hb => hb) _ ps rs hP2.own hP2.rd hP2.ne (by have := hP2.few; omega) (by have := hP2.mod.size; simpa using this))
        have HP2 := Lib.hid hP2
        clear hP2
        go_wp2_with fail
        refine HJ.out.mono ?_
        rintro e w6 ⟨r6, rfl, h7, h8⟩
        have H7 := Lib.hid h7
        have HM := Lib.hid (HP2.out.mod.trans (below_mod h8))
        have HZ := Lib.hid (res_block HM.out HI.out.1)
        have H10 := Lib.hid (HP2.out.rdr.below h8)
        clear h7 h8
        go_wp2_with (refine wpList_store_row rfl 26 (.tmp 2) (.tmp 18) rfl w.heap.size (rnC r6).toArray rfl rfl 26 zeroNd HZ.out (node_info r6) rfl H7.out.one ?_)
        try rw [Exit.noGoto_ret]
        refine bodyPost_ret (v := rnV r6) (results_cell_row rfl _ _ w.heap.size _ _ (0, 0) _ rfl (setRow_heap _ _ _ _ _ _ HZ.out) Tryd.underlying26 rfl (node_info r6)) rfl ?_
        refine ⟨res_mod HM.out, ?_⟩
        rw [HXr.out]
        exact ⟨rnV r6, rfl, ⟨r6, rfl, node_after H7.out (Nat.lt_succ_self _) (Nat.le_succ _)⟩, row_rdr H10.out HI.out.1⟩
end Go.Proofs.YtaaeooimalglaaaDoor
