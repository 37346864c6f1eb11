/-
  What layer 17's statements share: the laid variables; the reference's SameQuery. Over the program's own text.
-/
import Derived.Test.YthkpaelpnofbgaaGreatDoorQsC19
import Derived.Test.YthkpaelpnofbgaaGreatDoorQsC07
import Derived.Test.YthkpaelpnofbgaaGreatDoorQsC03
import Derived.Test.YthkpaelpnofbgaaGreatDoorQsC06
import Derived.Test.YthkpaelpnofbgaaGreatDoorQsC15
import Derived.Test.YthkpaelpnofbgaaGreatDoorRows
import Derived.ChangeSlices
import Derived.ChangeMaps5
import Derived.SizedLaws
import Derived.Deep.Slices
namespace Go.Proofs.YthkpaelpnofbgaaGreatDoor
open Go.RowKit

/-- What the program's variables are to hold. -/
def TQ (w : World) : Prop := TabsIn w ∧ ErrsIn w
set_option maxRecDepth 100000 in
theorem TQ.below {w w' : World} (h : TQ w) (hb : Below w.heap.size w w') : TQ w' := ⟨h.1.below hb, h.2.below hb⟩
set_option maxRecDepth 100000 in
theorem iface_var {P : Program} {w : World} {name tn : String} {g : Nat} {t : TypeId} {ms : Array (String × TypeId)} {d : DataW Unit} (hg : P.globalNamed name = some g) (ht : (P.globals[g]?).map (·.type) = some t) (hu : P.underlying t = some (.interface ms)) (h : VarReads P w name (.iface tn d)) :
    ∃ tp p, w.var? P name = some #[.iface tp p] := by
  obtain ⟨g', t', cs, fuel, p, h1, h2, h3, h4⟩ := h
  obtain rfl := Option.some.inj (hg.symm.trans h1)
  obtain rfl := Option.some.inj (ht.symm.trans h2)
  obtain ⟨_, u, v, hc, _, _⟩ := iface_of_trod hu h4
  have : cs = #[.iface u v] := by cases cs; simp_all
  subst this
  exact ⟨u, v, h3⟩
set_option maxRecDepth 100000 in
theorem of_laid_qry {W : World} (h : laidMetH Tryz.prog [("math/bits.deBruijn32tab", Rows.laid_math_bits_deBruijn32tab), ("math/bits.deBruijn64tab", Rows.laid_math_bits_deBruijn64tab), ("internal/strconv.uint64pow10", Rows.laid_internal_strconv_uint64pow10), ("plover/fold.kinds", Rows.laid_plover_fold_kinds), ("plover/fold.shifts", Rows.laid_plover_fold_shifts), ("strconv.ErrRange", Rows.laid_strconv_ErrRange), ("strconv.ErrSyntax", Rows.laid_strconv_ErrSyntax)] W) : TQ W := by
  have L := fun n d hm => laid_reads (by kernel_rfl) h n d hm
  exact ⟨⟨table_row (t := 103) (xs := kindsA.toList) 4 (by kernel_rfl) (by kernel_rfl) (by kernel_rfl) (L _ _ (.tail _ (.tail _ (.tail _ (.head _))))), table_row (t := 133) (xs := shiftsA.toList) 4 (by kernel_rfl) (by kernel_rfl) (by kernel_rfl) (L _ _ (.tail _ (.tail _ (.tail _ (.tail _ (.head _))))))⟩,
    iface_var (g := 2) (by kernel_rfl) (by kernel_rfl) Tryz.underlying71 (L _ _ (.tail _ (.tail _ (.tail _ (.tail _ (.tail _ (.tail _ (.head _)))))))), iface_var (g := 3) (by kernel_rfl) (by kernel_rfl) Tryz.underlying71 (L _ _ (.tail _ (.tail _ (.tail _ (.tail _ (.tail _ (.head _)))))))⟩
set_option maxRecDepth 100000 in
set_option maxHeartbeats 4000000 in
theorem same_query (w : World) (S S' : Nat → Prop) (x : Nd) (lim ord : Int) (hf : FewN x) (r r' : Rn) (h : RdN w S x r) (h' : RdN w S' x r') :
    Calls Tryz.prog 10 #[.agg (qryC r lim ord).toArray, .agg (qryC r' lim ord).toArray] w fun e w' => e = .returned (.bool true) ∧ Below w.heap.size w w' := by
  have HS := Lib.hid (fun wx (hb : Below w.heap.size w wx) => same_node x hf wx S S' r r' (h.after hb) (h'.after hb))
  obtain ⟨k, f, tv, kv⟩ := r
  obtain ⟨k', f', tv', kv'⟩ := r'
  obtain ⟨ta, tn, tc, ka, kn, kc, rfl, rfl⟩ := h.slices
  obtain ⟨ta', tn', tc', ka', kn', kc', rfl, rfl⟩ := h'.slices
  clear h h'
  rw [show (qryC (k, f, .slice ta tn tc, .slice ka kn kc) lim ord).toArray = #[.int .i64 k, .int .u8 f, .slice ta tn tc, .slice ka kn kc, .int .i64 lim, .int .i64 ord] from rfl, show (qryC (k', f', .slice ta' tn' tc', .slice ka' kn' kc') lim ord).toArray = #[.int .i64 k', .int .u8 f', .slice ta' tn' tc', .slice ka' kn' kc', .int .i64 lim, .int .i64 ord] from rfl]
  rw [show rnV (k, f, .slice ta tn tc, .slice ka kn kc) = .agg #[.int .i64 k, .int .u8 f, .slice ta tn tc, .slice ka kn kc] from rfl, show rnV (k', f', .slice ta' tn' tc', .slice ka' kn' kc') = .agg #[.int .i64 k', .int .u8 f', .slice ta' tn' tc', .slice ka' kn' kc'] from rfl] at HS
  go_enter Tryz.func10, Tryz.ntmps10
  go_wp2_with fail
  refine (HS.out _ below_al2).mono ?_
  rintro e w3 ⟨rfl, hb⟩
  go_wp2_with fail
  go_ret
  exact ⟨rfl, low_more below_al2 hb⟩
/-! ### The chapter's examples -/
def fx1 : ByteArray := ⟨#[102, 111, 120, 32, 100, 111, 103, 32, 124, 32, 49, 58, 99, 97, 116]⟩
def fx2 : ByteArray := ⟨#[34, 116, 104, 101, 32, 102, 111, 120, 34]⟩
def fx3 : ByteArray := ⟨#[102, 111, 120, 32, 35, 54, 53]⟩
def fx4 : ByteArray := ⟨#[40, 40, 40, 40, 40, 40, 40, 40, 40, 102, 111, 120]⟩
def leaf1 (f : Int) (s : ByteArray) : Nd := .mk 1 f [(f, s, 0)] []
set_option maxRecDepth 100000 in
theorem px1 : parseX fx1 = ((.mk 3 0 [] [.mk 2 0 [] [leaf1 0 ⟨#[102, 111, 120]⟩, leaf1 0 ⟨#[100, 111, 103]⟩], leaf1 1 ⟨#[99, 97, 116]⟩], ⟨10, false, 0, false⟩), 0) := by kernel_rfl
set_option maxRecDepth 100000 in
theorem px2 : parseX fx2 = ((leaf1 0 ⟨#[102, 111, 120]⟩, ⟨10, false, 0, false⟩), 0) := by kernel_rfl
set_option maxRecDepth 100000 in
theorem px3 : (parseX fx3).2 = 8 := by kernel_rfl
set_option maxRecDepth 100000 in
theorem px4 : (parseX fx4).2 = 9 := by kernel_rfl
set_option maxRecDepth 100000 in
theorem two_kids {w : World} {S : Nat → Prop} {k f : Int} {x y : Nd} {r : Rn} (h : RdN w S (.mk k f [] [x, y]) r) :
    ∃ ta tc g o kc, r = (k, f, .slice ta 0 tc, .slice (some ⟨g, o, none⟩) 2 kc) ∧ 2 ≤ kc ∧ w.cell? ⟨g, o, none⟩ = some (.int .i64 x.kind) ∧ w.cell? ⟨g, o + 5, none⟩ = some (.int .u8 y.field) := by
  cases h with
  | @mk _ _ _ _ ta ka tc kc rs hf0 hf1 ht htl htm htb hk hkl hkm hkb hl hr =>
  obtain ⟨r0, h0⟩ : ∃ r, rs[0]? = some r := ⟨_, List.getElem?_eq_getElem (by rw [hl]; simp)⟩
  obtain ⟨r1, h1⟩ : ∃ r, rs[1]? = some r := ⟨_, List.getElem?_eq_getElem (by rw [hl]; simp)⟩
  obtain ⟨g, o, rfl, hc⟩ := hk 0 r0 h0
  obtain ⟨g', o', he, hc'⟩ := hk 1 r1 h1
  obtain ⟨rfl, rfl⟩ : g = g' ∧ o = o' := by injection he with he; injection he with a b; exact ⟨a, b⟩
  have p0 := (hr 0 x r0 rfl h0).parts
  have p1 := (hr 1 y r1 rfl h1).parts
  have c0 := hc 0 (.int .i64 r0.1) rfl
  have c1 := hc' 1 (.int .u8 r1.2.1) rfl
  rw [p0.1] at c0
  rw [p1.2.1] at c1
  refine ⟨ta, tc, g, o, kc, rfl, by simpa using hkl, by simpa using c0, ?_⟩
  rw [show o + 5 = o + 1 * 4 + 1 by omega]
  exact c1
set_option maxRecDepth 100000 in
theorem one_term {w : World} {S : Nat → Prop} {f : Int} {s : ByteArray} {r : Rn} (h : RdN w S (leaf1 f s) r) :
    ∃ ta tc ka kc, r = (1, f, .slice ta 1 tc, .slice ka 0 kc) ∧ ReadT w ta [(f, s, 0)] := by
  cases h with
  | @mk _ _ _ _ ta ka tc kc rs hf0 hf1 ht htl htm htb hk hkl hkm hkb hl hr => exact ⟨ta, tc, ka, kc, rfl, ht⟩
set_option maxRecDepth 100000 in
set_option maxHeartbeats 4000000 in
theorem fixed17 (w : World) (hT : TQ w) : Calls Tryz.prog 6 #[] w fun e w' => e = .returned (.bool true) ∧ Below w.heap.size w w' := by
  have HP := Lib.hid (fun wx (s : ByteArray) (hb : Below w.heap.size w wx) (hs : s.size ≤ 1000000) => parse_any wx s (hT.below hb).1 (hT.below hb).2 hs)
  clear hT
  go_enter Tryz.func6, Tryz.ntmps6
  go_wp2_with fail
  refine (HP.out w fx1 (Below.refl _ _) (by decide)).mono ?_
  rintro e w1 ⟨v, rfl, ⟨r, rfl, hr⟩, hb1⟩
  rw [px1] at hr ⊢
  obtain ⟨ta1, tc1, g1, o1, kc1, rfl, hk1, hc1, hd1⟩ := two_kids hr
  clear hr
  have HC1 := Lib.hid (And.intro hc1 hd1)
  have HB1 := Lib.hid (hb1.alloc hb1.size (.cells #[.int .i64 3, .int .u8 0, .slice ta1 0 tc1, .slice (some ⟨g1, o1, none⟩) 2 kc1, .int .i64 10, .int .i64 0] 27))
  have HD1 := Lib.hid (And.intro (below_cell hc1 (below_one (w := w1) (A := .cells #[.int .i64 3, .int .u8 0, .slice ta1 0 tc1, .slice (some ⟨g1, o1, none⟩) 2 kc1, .int .i64 10, .int .i64 0] 27))) (And.intro (below_cell hd1 (below_one (w := w1) (A := .cells #[.int .i64 3, .int .u8 0, .slice ta1 0 tc1, .slice (some ⟨g1, o1, none⟩) 2 kc1, .int .i64 10, .int .i64 0] 27))) (heap_alloc_new w1 (.cells #[.int .i64 3, .int .u8 0, .slice ta1 0 tc1, .slice (some ⟨g1, o1, none⟩) 2 kc1, .int .i64 10, .int .i64 0] 27))))
  clear hb1 hc1 hd1 HC1
  simp only [qryC, rnC, List.cons_append, List.nil_append]
  go_wp2_with fail
  generalize w1.heap.size = q1 at HD1 ⊢
  generalize w1.alloc (.cells #[.int .i64 3, .int .u8 0, .slice ta1 0 tc1, .slice (some ⟨g1, o1, none⟩) 2 kc1, .int .i64 10, .int .i64 0] 27) = w2 at HD1 HB1 ⊢
  clear w1
  refine (HP.out w2 fx2 HB1.out (by decide)).mono ?_
  rintro e w3 ⟨v, rfl, ⟨r, rfl, hr⟩, hb3⟩
  rw [px2] at hr ⊢
  obtain ⟨ta2, tc2, ka2, kc2, rfl, ht2⟩ := one_term hr
  clear hr
  obtain ⟨X, hX⟩ : ∃ X : Obj, X = .cells #[.int .i64 1, .int .u8 0, .slice ta2 1 tc2, .slice ka2 0 kc2, .int .i64 10, .int .i64 0] 27 := ⟨_, rfl⟩
  have hb4 := hb3.alloc hb3.size X
  have HB2 := Lib.hid (low_more HB1.out hb4)
  have HD2 := Lib.hid (And.intro (below_cell HD1.out.1 hb4) (And.intro (below_cell HD1.out.2.1 hb4) (blk_low HD1.out.2.2 hb4)))
  have HE2 := Lib.hid (And.intro (ht2.below (below_one (w := w3) (A := X))) (heap_alloc_new w3 X))
  clear hb3 hb4 ht2 HD1 HB1
  simp only [qryC, rnC, List.cons_append, List.nil_append]
  go_wp2_with fail
  rw [← hX]
  rw [hX] at HE2
  rw [← hX] at HE2
  generalize w3.heap.size = q2 at HE2 ⊢
  generalize w3.alloc X = w4 at HE2 HD2 HB2 ⊢
  clear w3
  refine (HP.out w4 fx3 HB2.out (by decide)).mono ?_
  rintro e w5 ⟨v, rfl, ⟨⟨k5, f5, tv5, kv5⟩, rfl, hr⟩, hb5⟩
  rw [px3]
  obtain ⟨ta5, tn5, tc5, ka5, kn5, kc5, rfl, rfl⟩ := hr.slices
  clear hr
  obtain ⟨l5, hl5⟩ : ∃ l5, l5 = (parseX fx3).1.2.lim := ⟨_, rfl⟩
  obtain ⟨m5, hm5⟩ : ∃ m5, m5 = (parseX fx3).1.2.ord := ⟨_, rfl⟩
  rw [← hl5, ← hm5]
  clear hl5 hm5
  obtain ⟨Y, hY⟩ : ∃ Y : Obj, Y = .cells #[.int .i64 k5, .int .u8 f5, .slice ta5 tn5 tc5, .slice ka5 kn5 kc5, .int .i64 l5, .int .i64 m5] 27 := ⟨_, rfl⟩
  have hb6 := hb5.alloc hb5.size Y
  have HB3 := Lib.hid (low_more HB2.out hb6)
  have HD3 := Lib.hid (And.intro (below_cell HD2.out.1 hb6) (And.intro (below_cell HD2.out.2.1 hb6) (blk_low HD2.out.2.2 hb6)))
  have HE3 := Lib.hid (And.intro (HE2.out.1.below hb6) (blk_low HE2.out.2 hb6))
  clear hb5 hb6 HD2 HE2 HB2
  simp only [qryC, rnC, List.cons_append, List.nil_append]
  go_wp2_with fail
  rw [← hY]
  clear hY
  generalize w5.heap.size = q3
  generalize w5.alloc Y = w6 at HE3 HD3 HB3 ⊢
  clear w5 Y
  refine (HP.out w6 fx4 HB3.out (by decide)).mono ?_
  rintro e w7 ⟨v, rfl, ⟨⟨k7, f7, tv7, kv7⟩, rfl, hr⟩, hb7⟩
  rw [px4]
  obtain ⟨ta7, tn7, tc7, ka7, kn7, kc7, rfl, rfl⟩ := hr.slices
  clear hr
  obtain ⟨l7, hl7⟩ : ∃ l7, l7 = (parseX fx4).1.2.lim := ⟨_, rfl⟩
  obtain ⟨m7, hm7⟩ : ∃ m7, m7 = (parseX fx4).1.2.ord := ⟨_, rfl⟩
  rw [← hl7, ← hm7]
  clear hl7 hm7
  obtain ⟨Y, hY⟩ : ∃ Y : Obj, Y = .cells #[.int .i64 k7, .int .u8 f7, .slice ta7 tn7 tc7, .slice ka7 kn7 kc7, .int .i64 l7, .int .i64 m7] 27 := ⟨_, rfl⟩
  have hb8 := hb7.alloc hb7.size Y
  have HB4 := Lib.hid (low_more HB3.out hb8)
  have hd1 := below_cell HD3.out.1 hb8
  have hd2 := below_cell HD3.out.2.1 hb8
  have hq1 := blk_low HD3.out.2.2 hb8
  have ht2 := Lib.hid (HE3.out.1.below hb8)
  have hq2 := blk_low HE3.out.2 hb8
  rw [hX] at hq2
  clear hb7 hb8 HD3 HE3 HB3 hX
  simp only [qryC, rnC, List.cons_append, List.nil_append]
  go_upto_region 5 with fail
  rw [← hY]
  clear hY
  generalize w7.heap.size = q4
  generalize w7.alloc Y = w8 at ht2 hq1 hq2 hd1 hd2 HB4 ⊢
  clear w7 Y
  have c0 := cell_at hq1 0
  have c3 := cell_at hq1 3
  have c4 := cell_at hq1 4
  have e2 := cell_at hq2 2
  go_wp2_with fail
  refine (same_toks _ ta2 (some ⟨w8.heap.size, 0, none⟩) tc2 1 [(0, ⟨#[102, 111, 120]⟩, 0)] [(0, ⟨#[102, 111, 120]⟩, 0)] (ht2.out.below below_one) (readT_new w8 _ _) (by decide)).mono ?_
  rintro e w9 ⟨rfl, hb9⟩
  go_wp2_with fail
  go_ret
  exact ⟨rfl, low_more (low_new HB4.out) hb9⟩
end Go.Proofs.YthkpaelpnofbgaaGreatDoor
/-
  Layer 17: any query's text is the document's, or it is refused with its error: the statement's own walk. Over the program's own text.
-/
namespace Go.Proofs.YthkpaelpnofbgaaGreatDoor
open Go.RowKit

set_option maxRecDepth 100000 in
set_option maxHeartbeats 8000000 in
theorem shows17 (w : World) (hT : TQ w) (x : Nd) (r : Rn) (lim ord : Int) (h : RdN w (fun _ => True) x r) (hre : ReachN x) :
    Calls Tryz.prog 3 #[.agg (qryC r lim ord).toArray] w fun e w' => e = .returned (.bool true) ∧ Below w.heap.size w w' := by
  have HG := Lib.hid (fun wx (hb : Below w.heap.size w wx) => great2_any wx _ x r (h.after hb) hre)
  have HF := Lib.hid (fun wx (hb : Below w.heap.size w wx) => fixed17 wx (hT.below hb))
  have HS := Lib.hid (fun (hw : wtN x < 3000) wx (hb : Below w.heap.size w wx) => prog_show x (by omega) wx _ r lim ord (h.after hb) (hT.below hb).1)
  have HR := Lib.hid (fun (hw : wtN x < 3000) wx (hb : Below w.heap.size w wx) => ref_show17 x (by omega) wx _ r lim ord (h.after hb))
  obtain ⟨k5, f5, tv5, kv5⟩ := r
  obtain ⟨ta5, tn5, tc5, ka5, kn5, kc5, rfl, rfl⟩ := h.slices
  clear h hT hre
  rw [show rnV (k5, f5, .slice ta5 tn5 tc5, .slice ka5 kn5 kc5) = .agg #[.int .i64 k5, .int .u8 f5, .slice ta5 tn5 tc5, .slice ka5 kn5 kc5] from rfl] at HG
  rw [show (qryC (k5, f5, .slice ta5 tn5 tc5, .slice ka5 kn5 kc5) lim ord).toArray = #[.int .i64 k5, .int .u8 f5, .slice ta5 tn5 tc5, .slice ka5 kn5 kc5, .int .i64 lim, .int .i64 ord] from rfl] at HS HR ⊢
  obtain ⟨X, hX⟩ : ∃ X : Obj, X = .cells #[.int .i64 k5, .int .u8 f5, .slice ta5 tn5 tc5, .slice ka5 kn5 kc5, .int .i64 lim, .int .i64 ord] 27 := ⟨_, rfl⟩
  have hx1 : (w.alloc X).heap[w.heap.size]? = some (.cells #[.int .i64 k5, .int .u8 f5, .slice ta5 tn5 tc5, .slice ka5 kn5 kc5, .int .i64 lim, .int .i64 ord] 27 (0, 0)) := by rw [heap_alloc_new w X, hX]
  have HB1 := Lib.hid (And.intro (below_one (w := w) (A := X)) hx1)
  have CF : ∀ wx : World, wx.heap[w.heap.size]? = some (.cells #[.int .i64 k5, .int .u8 f5, .slice ta5 tn5 tc5, .slice ka5 kn5 kc5, .int .i64 lim, .int .i64 ord] 27 (0, 0)) →
      wx.cell? ⟨w.heap.size, 0, none⟩ = some (.int .i64 k5) ∧ wx.cell? ⟨w.heap.size, 1, none⟩ = some (.int .u8 f5) ∧ wx.cell? ⟨w.heap.size, 2, none⟩ = some (.slice ta5 tn5 tc5) ∧ wx.cell? ⟨w.heap.size, 3, none⟩ = some (.slice ka5 kn5 kc5) ∧ wx.cell? ⟨w.heap.size, 4, none⟩ = some (.int .i64 lim) ∧ wx.cell? ⟨w.heap.size, 5, none⟩ = some (.int .i64 ord) := fun wx hx =>
    ⟨(cell_at hx 0).trans rfl, (cell_at hx 1).trans rfl, (cell_at hx 2).trans rfl, (cell_at hx 3).trans rfl, (cell_at hx 4).trans rfl, (cell_at hx 5).trans rfl⟩
  have HCF := Lib.hid CF
  obtain ⟨c0, c1, c2, c3, c4, c5⟩ := CF _ hx1
  clear hx1 CF
  go_enter Tryz.func3, Tryz.ntmps3
  go_upto_region 1 with fail
  rw [← hX]
  clear hX
  generalize w.alloc X = w1 at HB1 c0 c1 c2 c3 c4 c5 ⊢
  go_wp2_with fail
  refine (HG.out w1 HB1.out.1).mono ?_
  rintro e w2 ⟨⟨b, rfl, hb⟩, hlow⟩
  have HB2 := Lib.hid (And.intro (low_more HB1.out.1 hlow) (blk_low HB1.out.2 hlow))
  have HW := Lib.hid hb
  clear hlow hb c0 c1 c2 c3 c4 c5
  cases b
  case true =>
    go_wp2_with fail
    refine (HF.out w2 HB2.out.1).mono ?_
    rintro e w3 ⟨rfl, hb3⟩
    have HB3 := Lib.hid (low_more HB2.out.1 hb3)
    clear hb3
    go_wp2_with fail
    go_ret
    exact ⟨rfl, HB3.out⟩
  have hw := (HW.out rfl).2
  have HSg := Lib.hid (HS.out hw)
  have HRg := Lib.hid (HR.out hw)
  clear HS HR HW hw
  obtain ⟨c0, c1, c2, c3, c4, c5⟩ := HCF.out _ HB2.out.2
  generalize showX x lim ord = res at HSg HRg
  obtain ⟨t, e0⟩ := res
  simp only at HSg HRg
  go_wp2_with fail
  refine (HSg.out w2 HB2.out.1).mono ?_
  rintro e w3 ⟨rfl, hb3⟩
  have HB3 := Lib.hid (And.intro (low_more HB2.out.1 hb3) (blk_low HB2.out.2 hb3))
  clear hb3 c0 c1 c2 c3 c4 c5
  obtain ⟨c0, c1, c2, c3, c4, c5⟩ := HCF.out _ HB3.out.2
  go_wp2_with fail
  refine (HRg.out w3 HB3.out.1).mono ?_
  rintro e w4 ⟨rfl, hb4⟩
  have HB4 := Lib.hid (low_more HB3.out.1 hb4)
  clear hb4 c0 c1 c2 c3 c4 c5
  go_wp2_with fail
  refine (HF.out w4 HB4.out).mono ?_
  rintro e w5 ⟨rfl, hb5⟩
  have HB5 := Lib.hid (low_more HB4.out hb5)
  clear hb5
  go_wp2_with fail
  go_ret
  exact ⟨rfl, HB5.out⟩
end Go.Proofs.YthkpaelpnofbgaaGreatDoor
/-
  What the machine's reach tells of a part of an argument.
-/
namespace Go.Proofs.YthkpaelpnofbgaaGreatDoor
open Go.ChangeShapes Go.WideShapes Go.ChangeAt Go.RowKit Go.Deep

set_option maxRecDepth 100000 in
theorem sz_at {H : Type} {P : Program} {ts : List TypeId} {ds : List (DataW H)} (j : Nat) (h : (DataW.weightsEach P ts ds).all (· ≤ reachBytes) = true) {t : TypeId} {d : DataW H} (ht : ts[j]? = some t) (hd : ds[j]? = some d) : ∀ n ∈ d.weights P t, n ≤ reachBytes := by
  intro n hn
  have := List.all_eq_true.1 h n (DataW.weights_mem_each ht hd n hn)
  simpa using this
set_option maxRecDepth 100000 in
theorem mem_weightsAll {H : Type} {P : Program} {e : TypeId} : ∀ {l : List (DataW H)} {i : Nat} {d : DataW H}, l[i]? = some d → ∀ n ∈ d.weights P e, n ∈ DataW.weightsAll P e l
  | d0 :: l, 0, d, hd, n, hn => by
    simp only [List.getElem?_cons_zero, Option.some.injEq] at hd
    subst hd
    simp only [DataW.weightsAll, List.mem_append]
    exact Or.inl hn
  | d0 :: l, i + 1, d, hd, n, hn => by
    simp only [List.getElem?_cons_succ] at hd
    simp only [DataW.weightsAll, List.mem_append]
    exact Or.inr (mem_weightsAll hd n hn)
  | [], _, _, hd, _, _ => by simp at hd
end Go.Proofs.YthkpaelpnofbgaaGreatDoor
/-
  Rows that come in, of whatever elements: no row in them is greater than a machine has room for. Over the program's own text.
-/
namespace Go.Proofs.YthkpaelpnofbgaaGreatDoor
open Go.ChangeShapes Go.WideShapes Go.ChangeAt Go.RowKit Go.Deep

set_option maxRecDepth 100000 in
theorem choose_el {α : Type} {n : Nat} {p : Nat → α → Prop} (h : ∀ i, i < n → ∃ x, p i x) : ∃ f : Fin n → α, ∀ i : Fin n, p i (f i) :=
  ⟨fun i => Classical.choose (h i i.2), fun i => Classical.choose_spec (h i i.2)⟩
set_option maxRecDepth 100000 in
theorem trod_row {H α : Type} {enc : TypeId × Value → H} {W : World} {fuel : Nat} {c : Value} {x : DataW H × List MemPlace} (t e : TypeId) (k : Nat) (hu : Tryz.prog.underlying t = some (.slice e)) (hk : Tryz.prog.cellsOf e = k) (h0 : 0 < k) (h8 : 1 ≤ Tryz.prog.bytesOf e) (Q : Nat → Nat → α → Prop)
    (hf : DataW.trod enc Tryz.prog W 0 (fun _ => true) true fuel t [c] = some x) (hs : ∀ n ∈ x.1.weights Tryz.prog t, n ≤ reachBytes)
    (hel : ∀ (n : Nat) (cs : List Value) (y : DataW H × List MemPlace) (b o : Nat), SizeOf.sizeOf y.1 < SizeOf.sizeOf x.1 → DataW.trod enc Tryz.prog W 0 (fun _ => true) true n e cs = some y → (∀ m ∈ y.1.weights Tryz.prog e, m ≤ reachBytes) → cs.length = k → (∀ (j : Nat) (v : Value), cs[j]? = some v → W.cell? ⟨b, o + j, none⟩ = some v) → ∃ a, Q b o a) :
    ∃ (l : List α) (pa : Option Addr) (cap : Nat), c = .slice pa l.length cap ∧ l.length ≤ cap ∧ cap ≤ maxLen ∧ (pa = none → cap = 0) ∧ l.length ≤ reachBytes ∧ ∀ (j : Nat) (a : α), l[j]? = some a → ∃ g o : Nat, pa = some ⟨g, o, none⟩ ∧ Q g (o + j * k) a := by
  rcases open_slice hu hf with ⟨hcs, _⟩ | ⟨a', len, cap, m, n, D, Pl, hcs, _, hl, hm, hmm, hdd, hi⟩
  · simp only [List.cons.injEq, and_true] at hcs
    subst hcs
    exact ⟨[], none, 0, rfl, by simp, by simp [maxLen], fun _ => rfl, by simp, fun j a hj => by simp at hj⟩
  · simp only [List.cons.injEq, and_true] at hcs
    subst hcs
    simp only [if_true] at hmm
    subst hmm
    rw [hk] at hi
    have hd1 : x.1 = .slice ((List.range len).map D) ((List.range (m - len)).map fun j => D (len + j)) := congrArg Prod.fst hdd
    have hplain : 0 < m → ∃ b off, a' = ⟨b, off, none⟩ := fun hpos => by
      obtain ⟨cs0, hc0, _⟩ := hi 0 hpos
      obtain ⟨_, hl0, hat0⟩ := World.cells?_some hc0
      have h00 := hat0 0 (by omega)
      rw [Nat.zero_mul, Addr.add_zero', Addr.add_zero', List.getElem?_eq_getElem (by omega)] at h00
      obtain ⟨b, off, sp⟩ := a'
      exact ⟨b, off, by rw [show sp = none from plain_of_cell h00]⟩
    obtain ⟨E, hE⟩ := choose_el (α := α) (n := len) (p := fun i a => ∃ b off, (some a' : Option Addr) = some ⟨b, off, none⟩ ∧ Q b (off + i * k) a) (fun i him => by
      obtain ⟨cs, hc, ht⟩ := hi i (by omega)
      obtain ⟨_, hcl, hat⟩ := World.cells?_some hc
      obtain ⟨b, off, rfl⟩ := hplain (by omega)
      have hmem : D i ∈ (List.range len).map D := List.mem_map.2 ⟨i, List.mem_range.2 him, rfl⟩
      obtain ⟨a, ha⟩ := hel n cs (D i, Pl i) b (off + i * k) (by
        rw [hd1]
        have := List.sizeOf_lt_of_mem hmem
        show SizeOf.sizeOf (D i) < _
        simp
        omega) ht (fun q hq => hs q (by
          rw [hd1]
          unfold DataW.weights
          rw [hu]
          exact List.mem_cons_of_mem _ (List.mem_append_left _ (mem_weightsAll (i := i) (d := D i) (by rw [List.getElem?_map, List.getElem?_range him]; rfl) _ hq)))) hcl (fun j v hj => by
        have hjk : j < k := by have := (List.getElem?_eq_some_iff.1 hj).1; omega
        have := hat j hjk
        rw [hj] at this
        rw [Addr.add_lit, Addr.add_lit] at this
        exact this)
      exact ⟨a, b, off, rfl, ha⟩)
    have hlen : (List.ofFn E).length = len := by simp
    refine ⟨List.ofFn E, some a', m, by rw [hlen], by omega, by omega, (by intro h; cases h), ?_, fun j a hj => ?_⟩
    · have := hs ((((List.range len).map D).length + ((List.range (m - len)).map fun j => D (len + j)).length) * Tryz.prog.bytesOf e) (by
        rw [hd1]
        unfold DataW.weights
        rw [hu]
        exact List.mem_cons_self)
      rw [hlen]
      simp only [List.length_map, List.length_range] at this
      have h9 := Nat.le_mul_of_pos_right (len + (m - len)) h8
      omega
    · rw [List.getElem?_ofFn] at hj
      split at hj
      · rename_i hjl
        injection hj with hj
        subst hj
        exact hE ⟨j, hjl⟩
      · cases hj
set_option maxRecDepth 100000 in
theorem trod_i64 {H : Type} {enc : TypeId × Value → H} {W : World} {fuel : Nat} {c : Value} {y : DataW H × List MemPlace} (h : DataW.trod enc Tryz.prog W 0 (fun _ => true) true fuel 3 [c] = some y) : ∃ x : Int, c = .int .i64 x ∧ -9223372036854775808 ≤ x ∧ x ≤ 9223372036854775807 := by
  obtain ⟨x, e, _, wf⟩ := DataW.trod_int Tryz.underlying3 h
  simp only [List.cons.injEq, and_true] at e
  exact ⟨x, e, bounds_i64 wf⟩
end Go.Proofs.YthkpaelpnofbgaaGreatDoor
/-
  Rows of words that come in. Over the program's own text.
-/
namespace Go.Proofs.YthkpaelpnofbgaaGreatDoor
open Go.ChangeShapes Go.WideShapes Go.ChangeAt Go.RowKit Go.Deep

set_option maxRecDepth 100000 in
theorem trod_toks {H : Type} {enc : TypeId × Value → H} {W : World} {fuel : Nat} {c : Value} {x : DataW H × List MemPlace} (hf : DataW.trod enc Tryz.prog W 0 (fun _ => true) true fuel 22 [c] = some x) (hs : ∀ n ∈ x.1.weights Tryz.prog 22, n ≤ reachBytes) :
    ∃ (l : List Tk) (pa : Option Addr) (cap : Nat), c = .slice pa l.length cap ∧ l.length ≤ cap ∧ cap ≤ maxLen ∧ (pa = none → cap = 0) ∧ l.length ≤ reachBytes ∧ ReadT W pa l ∧ ∀ t ∈ l, t.2.1.size ≤ reachBytes := by
  obtain ⟨l, pa, cap, h1, h2, h3, h4, h5, h6⟩ := trod_row (α := Tk) 22 43 3 Tryz.underlying22 (by kernel_rfl) (by decide) (by decide +kernel) (fun b o x => W.cell? ⟨b, o, none⟩ = some (.int .u8 x.1) ∧ W.cell? ⟨b, o + 1, none⟩ = some (.string x.2.1) ∧ W.cell? ⟨b, o + 2, none⟩ = some (.int .i64 x.2.2) ∧ x.2.1.size ≤ reachBytes) hf hs
    (fun n cs y b o _ ht hw hcl hat => by
      obtain ⟨ys, n', _, hD, hlen, hyl, hg⟩ := DataW.trod_struct Tryz.underlying43 ht
      match cs, hcl with
      | [c0, c1, c2], _ =>
        have g0 := hg 0 _ rfl
        have g1 := hg 1 _ rfl
        have g2 := hg 2 _ rfl
        match ys, hyl with
        | [y0, y1, y2], _ =>
          obtain ⟨x0, e0, _, wf0⟩ := DataW.trod_int Tryz.underlying5 (show DataW.trod enc Tryz.prog W 0 (fun _ => true) true n' 5 [c0] = some y0 from g0)
          obtain ⟨s, e1, ey1, _⟩ := DataW.trod_string Tryz.underlying9 (show DataW.trod enc Tryz.prog W 0 (fun _ => true) true n' 9 [c1] = some y1 from g1)
          obtain ⟨x2, e2, _⟩ := trod_i64 (show DataW.trod enc Tryz.prog W 0 (fun _ => true) true n' 3 [c2] = some y2 from g2)
          simp only [List.cons.injEq, and_true] at e0 e1
          subst e0 e1 e2
          refine ⟨(x0, s, x2), by simpa using hat 0 _ rfl, hat 1 _ rfl, hat 2 _ rfl, hw _ ?_⟩
          rw [show y.1 = _ from congrArg Prod.fst hD]
          unfold DataW.weights
          rw [show Tryz.prog.underlying 43 = _ from Tryz.underlying43]
          refine DataW.weights_mem_each (j := 1) rfl rfl _ ?_
          rw [ey1]
          show s.size ∈ [s.data.toList.length]
          rw [Array.length_toList]
          exact List.mem_singleton.2 rfl)
  exact ⟨l, pa, cap, h1, h2, h3, h4, h5, fun j x hj => by
    obtain ⟨g, o, q1, q2, q3, q4, _⟩ := h6 j x hj
    exact ⟨g, o, q1, q2, q3, q4⟩, fun t ht => by
    obtain ⟨i, hi, rfl⟩ := List.getElem_of_mem ht
    obtain ⟨g, o, _, _, _, _, q⟩ := h6 i _ (List.getElem?_eq_getElem hi)
    exact q⟩
set_option maxRecDepth 100000 in
theorem open_toks {H : Type} {enc : TypeId × Value → H} {W : World} {v : Value} {d : DataW H} {p : List MemPlace} {base : Nat}
    (hs : ∀ n ∈ d.weights Tryz.prog 22, n ≤ reachBytes) (hv : Value.okWide Tryz.prog W .any base 22 v) (h : DataW.Trod enc Tryz.prog W 0 (fun _ => true) true 22 v d p) :
    ∃ ao l cap, v = .slice ao (List.length l) cap ∧ ReadT W ao l ∧ l.length ≤ cap ∧ l.length ≤ reachBytes := by
  obtain ⟨a, len, cap, rfl⟩ := okWide_slice Tryz.underlying22 hv
  obtain ⟨fuel, hf⟩ := h
  obtain ⟨l, pa, c, h1, h2, _, _, h5, h6, _⟩ := trod_toks (show DataW.trod enc Tryz.prog W 0 (fun _ => true) true fuel 22 [.slice a len cap] = some (d, p) from hf) hs
  exact ⟨pa, l, c, h1, h6, h2, h5⟩
end Go.Proofs.YthkpaelpnofbgaaGreatDoor
/-
  Trees that come in, however deep. Over the program's own text.
-/
namespace Go.Proofs.YthkpaelpnofbgaaGreatDoor
open Go.ChangeShapes Go.WideShapes Go.ChangeAt Go.RowKit Go.Deep

set_option maxRecDepth 100000 in
theorem trod_node {H : Type} {enc : TypeId × Value → H} {W : World} : ∀ (N fuel : Nat) (cs : List Value) (y : DataW H × List MemPlace), SizeOf.sizeOf y.1 < N → DataW.trod enc Tryz.prog W 0 (fun _ => true) true fuel 25 cs = some y → (∀ m ∈ y.1.weights Tryz.prog 25, m ≤ reachBytes) → cs.length = 4 →
    ∃ x r, cs = rnC r ∧ RdN W (fun _ => True) x r ∧ ReachN x
  | 0, _, _, _, h, _, _, _ => absurd h (by omega)
  | N + 1, fuel, cs, y, hN, ht, hw, hcl => by
    obtain ⟨ys, n', _, hD, _, hyl, hg⟩ := DataW.trod_struct Tryz.underlying25 ht
    match cs, hcl with
    | [c0, c1, c2, c3], _ =>
      have g0 := hg 0 _ rfl
      have g1 := hg 1 _ rfl
      have g2 := hg 2 _ rfl
      have g3 := hg 3 _ rfl
      match ys, hyl with
      | [y0, y1, y2, y3], _ =>
        have hD1 : y.1 = .agg [y0.1, y1.1, y2.1, y3.1] := congrArg Prod.fst hD
        have hwt : ∀ (j : Nat) (t : TypeId) (d : DataW H), ([3, 5, 22, 23] : List TypeId)[j]? = some t → ([y0.1, y1.1, y2.1, y3.1] : List (DataW H))[j]? = some d → ∀ m ∈ d.weights Tryz.prog t, m ≤ reachBytes := fun j t d h1 h2 m hm => hw m (by
          rw [hD1]
          unfold DataW.weights
          rw [show Tryz.prog.underlying 25 = _ from Tryz.underlying25]
          exact DataW.weights_mem_each h1 h2 m hm)
        obtain ⟨k, rfl, _⟩ := trod_i64 (show DataW.trod enc Tryz.prog W 0 (fun _ => true) true n' 3 [c0] = some y0 from g0)
        obtain ⟨f, e1, _, wf1⟩ := DataW.trod_int Tryz.underlying5 (show DataW.trod enc Tryz.prog W 0 (fun _ => true) true n' 5 [c1] = some y1 from g1)
        simp only [List.cons.injEq, and_true] at e1
        subst e1
        have hf := bounds_u8 wf1
        obtain ⟨ts, ta, tc, rfl, t2, t3, t4, t5, t6, t7⟩ := trod_toks (show DataW.trod enc Tryz.prog W 0 (fun _ => true) true n' 22 [c2] = some y2 from g2) (hwt 2 _ _ rfl rfl)
        obtain ⟨l, ka, kc, rfl, k2, k3, k4, k5, k6⟩ := trod_row (α := Nd × Rn) 23 25 4 Tryz.underlying23 (by kernel_rfl) (by decide) (by decide +kernel) (fun b o a => (∀ (i : Nat) (v : Value), (rnC a.2)[i]? = some v → W.cell? ⟨b, o + i, none⟩ = some v) ∧ RdN W (fun _ => True) a.1 a.2 ∧ ReachN a.1)
          (show DataW.trod enc Tryz.prog W 0 (fun _ => true) true n' 23 [c3] = some y3 from g3) (hwt 3 _ _ rfl rfl)
          (fun n cs' y' b o hlt ht' hw' hcl' hat => by
            have hsz : SizeOf.sizeOf y3.1 < SizeOf.sizeOf y.1 := by rw [hD1]; simp; omega
            obtain ⟨x, r, hcs, hx, hrx⟩ := trod_node N n cs' y' (by omega) ht' hw' hcl'
            exact ⟨(x, r), fun i v hv => hat i v (by rw [hcs]; exact hv), hx, hrx⟩)
        refine ⟨.mk k f ts (l.map (·.1)), (k, f, .slice ta ts.length tc, .slice ka (l.map (·.1)).length kc), by rw [List.length_map]; rfl, ?_, .mk t5 t7 (by rw [List.length_map]; exact k5) (fun x hx => ?_)⟩
        · refine RdN.mk (rs := l.map (·.2)) hf.1 hf.2 t6 t2 t3 (fun _ _ _ => trivial) (fun j r hj => ?_) (by rw [List.length_map]; exact k2) k3 (fun _ _ _ => trivial) (by rw [List.length_map, List.length_map]) (fun j x r h1 h2 => ?_)
          · rw [List.getElem?_map] at hj
            obtain ⟨a, ha, rfl⟩ := Option.map_eq_some_iff.1 hj
            obtain ⟨g, o, q1, q2, _⟩ := k6 j a ha
            exact ⟨g, o, q1, q2⟩
          · rw [List.getElem?_map] at h1 h2
            obtain ⟨a, ha, rfl⟩ := Option.map_eq_some_iff.1 h1
            rw [ha] at h2
            injection h2 with h2
            subst h2
            obtain ⟨g, o, _, _, q3, _⟩ := k6 j a ha
            exact q3
        · obtain ⟨a, ha, rfl⟩ := List.mem_map.1 hx
          obtain ⟨i, hi, rfl⟩ := List.getElem_of_mem ha
          obtain ⟨g, o, _, _, _, q4⟩ := k6 i _ (List.getElem?_eq_getElem hi)
          exact q4
set_option maxRecDepth 100000 in
theorem open_node {H : Type} {enc : TypeId × Value → H} {W : World} {v : Value} {d : DataW H} {p : List MemPlace} {base : Nat}
    (hs : ∀ n ∈ d.weights Tryz.prog 25, n ≤ reachBytes) (hv : Value.okWide Tryz.prog W .any base 25 v) (h : DataW.Trod enc Tryz.prog W 0 (fun _ => true) true 25 v d p) :
    ∃ x r, v = rnV r ∧ RdN W (fun _ => True) x r ∧ ReachN x := by
  obtain ⟨cs, rfl, hsz, _⟩ := agg_cells (by kernel_rfl) hv (ts := [3, 5, 22, 23]) (by kernel_rfl)
  obtain ⟨fuel, hf⟩ := h
  rw [show Tryz.prog.cellsOf 25 = 4 by kernel_rfl] at hsz
  obtain ⟨x, r, h1, h2, h3⟩ := trod_node (SizeOf.sizeOf d + 1) fuel cs.toList (d, p) (by show SizeOf.sizeOf d < _; omega) hf hs (by simpa using hsz)
  exact ⟨x, r, by unfold rnV; rw [← h1], h2, h3⟩
set_option maxRecDepth 100000 in
theorem open_nodes {H : Type} {enc : TypeId × Value → H} {W : World} {v : Value} {d : DataW H} {p : List MemPlace} {base : Nat}
    (hs : ∀ n ∈ d.weights Tryz.prog 23, n ≤ reachBytes) (hv : Value.okWide Tryz.prog W .any base 23 v) (h : DataW.Trod enc Tryz.prog W 0 (fun _ => true) true 23 v d p) :
    ∃ (ao : Option Addr) (ks : List Nd) (rs : List Rn) (cap : Nat), v = .slice ao (List.length ks) cap ∧ ks.length ≤ cap ∧ cap ≤ maxLen ∧ ReadR W ao rs ∧ rs.length = ks.length ∧ (∀ (j : Nat) x r, ks[j]? = some x → rs[j]? = some r → RdN W (fun _ => True) x r) ∧ (∀ x ∈ ks, ReachN x) ∧ ks.length ≤ reachBytes := by
  obtain ⟨a, len, cap, rfl⟩ := okWide_slice Tryz.underlying23 hv
  obtain ⟨fuel, hf⟩ := h
  obtain ⟨l, ka, kc, h1, k2, k3, k4, k5, k6⟩ := trod_row (α := Nd × Rn) 23 25 4 Tryz.underlying23 (by kernel_rfl) (by decide) (by decide +kernel) (fun b o a => (∀ (i : Nat) (v : Value), (rnC a.2)[i]? = some v → W.cell? ⟨b, o + i, none⟩ = some v) ∧ RdN W (fun _ => True) a.1 a.2 ∧ ReachN a.1)
    (show DataW.trod enc Tryz.prog W 0 (fun _ => true) true fuel 23 [.slice a len cap] = some (d, p) from hf) hs
    (fun n cs' y' b o _ ht' hw' hcl' hat => by
      obtain ⟨x, r, hcs, hx, hrx⟩ := trod_node (SizeOf.sizeOf y'.1 + 1) n cs' y' (by omega) ht' hw' hcl'
      exact ⟨(x, r), fun i v hv => hat i v (by rw [hcs]; exact hv), hx, hrx⟩)
  refine ⟨ka, l.map (·.1), l.map (·.2), kc, by rw [List.length_map]; exact h1, by rw [List.length_map]; exact k2, k3, fun j r hj => ?_, by rw [List.length_map, List.length_map], fun j x r h1 h2 => ?_, fun x hx => ?_, by rw [List.length_map]; exact k5⟩
  · rw [List.getElem?_map] at hj
    obtain ⟨a, ha, rfl⟩ := Option.map_eq_some_iff.1 hj
    obtain ⟨g, o, q1, q2, _⟩ := k6 j a ha
    exact ⟨g, o, q1, q2⟩
  · rw [List.getElem?_map] at h1 h2
    obtain ⟨a, ha, rfl⟩ := Option.map_eq_some_iff.1 h1
    rw [ha] at h2
    injection h2 with h2
    subst h2
    obtain ⟨g, o, _, _, q3, _⟩ := k6 j a ha
    exact q3
  · obtain ⟨a, ha, rfl⟩ := List.mem_map.1 hx
    obtain ⟨i, hi, rfl⟩ := List.getElem_of_mem ha
    obtain ⟨g, o, _, _, _, q4⟩ := k6 i _ (List.getElem?_eq_getElem hi)
    exact q4
end Go.Proofs.YthkpaelpnofbgaaGreatDoor
/-
  A query that comes in. Over the program's own text.
-/
namespace Go.Proofs.YthkpaelpnofbgaaGreatDoor
open Go.ChangeShapes Go.WideShapes Go.ChangeAt Go.RowKit Go.Deep

set_option maxRecDepth 100000 in
theorem open_query {H : Type} {enc : TypeId × Value → H} {W : World} {v : Value} {d : DataW H} {p : List MemPlace} {base : Nat}
    (hs : ∀ n ∈ d.weights Tryz.prog 27, n ≤ reachBytes) (hv : Value.okWide Tryz.prog W .any base 27 v) (h : DataW.Trod enc Tryz.prog W 0 (fun _ => true) true 27 v d p) :
    ∃ x r lim ord, v = .agg (qryC r lim ord).toArray ∧ RdN W (fun _ => True) x r ∧ ReachN x := by
  obtain ⟨cs, rfl, hsz, _⟩ := agg_cells (by kernel_rfl) hv (ts := [3, 5, 22, 23, 3, 3]) (by kernel_rfl)
  rw [show Tryz.prog.cellsOf 27 = 6 by kernel_rfl] at hsz
  obtain ⟨fuel, ht⟩ := h
  obtain ⟨ys, n', _, hD, _, hyl, hg⟩ := DataW.trod_struct Tryz.underlying27 ht
  obtain ⟨c0, c1, c2, c3, c4, c5, rfl⟩ : ∃ c0 c1 c2 c3 c4 c5, cs = #[c0, c1, c2, c3, c4, c5] := by
    match cs, hsz with
    | ⟨[c0, c1, c2, c3, c4, c5]⟩, _ => exact ⟨_, _, _, _, _, _, rfl⟩
  match ys, hyl with
  | [y0, y1, y2], _ =>
    have g0 := hg 0 _ rfl
    have g1 := hg 1 _ rfl
    have g2 := hg 2 _ rfl
    have hD1 : d = .agg [y0.1, y1.1, y2.1] := congrArg Prod.fst hD
    have hwt : ∀ (j : Nat) (t : TypeId) (dd : DataW H), ([25, 3, 3] : List TypeId)[j]? = some t → ([y0.1, y1.1, y2.1] : List (DataW H))[j]? = some dd → ∀ m ∈ dd.weights Tryz.prog t, m ≤ reachBytes := fun j t dd h1 h2 m hm => hs m (by
      rw [hD1]
      unfold DataW.weights
      rw [show Tryz.prog.underlying 27 = _ from Tryz.underlying27]
      exact DataW.weights_mem_each h1 h2 m hm)
    obtain ⟨x, r, h1, h2, h3⟩ := trod_node (SizeOf.sizeOf y0.1 + 1) n' [c0, c1, c2, c3] y0 (by omega) (show DataW.trod enc Tryz.prog W 0 (fun _ => true) true n' 25 [c0, c1, c2, c3] = some y0 from g0) (hwt 0 _ _ rfl rfl) rfl
    obtain ⟨lim, e4, _⟩ := trod_i64 (show DataW.trod enc Tryz.prog W 0 (fun _ => true) true n' 3 [c4] = some y1 from g1)
    obtain ⟨ord, e5, _⟩ := trod_i64 (show DataW.trod enc Tryz.prog W 0 (fun _ => true) true n' 3 [c5] = some y2 from g2)
    refine ⟨x, r, lim, ord, ?_, h2, h3⟩
    subst e4 e5
    unfold qryC
    rw [← h1]
    rfl
end Go.Proofs.YthkpaelpnofbgaaGreatDoor
