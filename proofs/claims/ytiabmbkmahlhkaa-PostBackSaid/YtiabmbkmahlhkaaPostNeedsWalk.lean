/-
  What words need from any tail on is the document's; and puts take just that: the law's walk. Over the program's own text.
-/
import Derived.Test.YtiabmbkmahlhkaaPostSeq
import Derived.Test.YtiabmbkmahlhkaaPostNeed
import Derived.Test.YtiabmbkmahlhkaaPostFixed
import Derived.Test.YtiabmbkmahlhkaaPoolK
namespace Go.Proofs.Ytiabmbkmahlhkaa
open Go.RowKit

theorem needS_room {n : Nat} {l : Int} {k j : Nat} (hl : l = 0) : (if j = k then slab k else 0) ≤ needS (n + 1) l k j := by
  rw [needS_succ, if_pos hl]
  have := needS_lo n (slab k - 2) (up k) j
  omega
/-- Where all lies between the rounds of the second loop. -/
def NeedsAt (W : World) (p q : Nat) (B S : Nat → Int) (C T L : Int) (mb cb : Nat) (t : Int) (Us : Nat → Int) (N : Nat) (wr : World) : Prop :=
  wr.heap[p]? = some (.cells (planC B S C T L) 29 (0, 0)) ∧ wr.heap[q]? = some (.cells (six Us) 27 (0, 0)) ∧ Below W.heap.size W wr ∧ ∃ tails cs D, tails 0 = t ∧ PS B S C mb cb tails Us cs D N wr
theorem NeedsAt.below {W : World} {p q : Nat} {B S : Nat → Int} {C T L : Int} {mb cb : Nat} {t : Int} {Us : Nat → Int} {N : Nat} {wr w' : World} (h : NeedsAt W p q B S C T L mb cb t Us N wr) (hb : Below wr.heap.size wr w') : NeedsAt W p q B S C T L mb cb t Us N w' := by
  obtain ⟨a, b, c, tails, cs, D, e, f⟩ := h
  exact ⟨(hb.block _ (lt_of_heap a)).trans a, (hb.block _ (lt_of_heap b)).trans b, low_more c hb, tails, cs, D, e, f.below hb⟩
/-- Blocks of one's own. -/
def NeedsB (W : World) (p q mb cb : Nat) : Prop := W.heap.size ≤ p ∧ W.heap.size ≤ q ∧ W.heap.size ≤ mb ∧ W.heap.size ≤ cb ∧ p ≠ q ∧ p ≠ mb ∧ p ≠ cb ∧ q ≠ mb ∧ q ≠ cb

set_option maxRecDepth 100000 in
set_option maxHeartbeats 4000000 in
theorem needs_walk {walkP : (Nat → Int) → (Nat → Int) → Int → Int → Pr (List Nat)} (K : KeptPost walkP) (W : World) (d t0 : Int) (s0 : Nat → Int) (bk rm : Int) (kf bf : Nat) (ah : Nat) (hah : ah < 256) (n t : Int) (n0 : -9223372036854775808 ≤ n) (n9 : n ≤ 9223372036854775807) (th0 : -9223372036854775808 ≤ t) (th1 : t ≤ 9223372036854775807) :
    Calls Try.prog 5 #[.agg (confC d t0 s0 bk rm kf bf), .int .u8 (ah : Int), .int .i64 n, .int .i64 t] W fun e w' => e = .returned (.bool true) ∧ Below W.heap.size W w' := by
  obtain ⟨B, S, C, T, L, ok, hok, hplan⟩ := plan_at d t0 s0 bk rm kf bf
  have HP := Lib.hid hplan
  have HFx := Lib.hid (fixed_any K)
  have HK := Lib.hid K
  clear hplan K
  go_enter Try.func5, Try.ntmps5
  go_wp2_with (refine wpList_load_row rfl 25 (.tmp 4) rfl W.heap.size rfl 25 (confC d t0 s0 bk rm kf bf) (0, 0) _ (heap_alloc_new W _) Try.underlying25 rfl (by kernel_rfl) ?_)
  refine (HP.out _).mono ?_; rintro e w1 ⟨rfl, hb1⟩
  have hB1 : Below W.heap.size W w1 := low_more below_one hb1
  have hz1 : W.heap.size < w1.heap.size := by have := hb1.size; simp at this; omega
  go_upto_region 2 with (first
    | (refine wpList_store_row rfl 29 (.tmp 9) (.tmp 24) rfl w1.heap.size (planC B S C T L) rfl rfl 29 (planC (fun _ => 0) (fun _ => 0) 0 0 0) (heap_alloc_new w1 _) (planC_info _ _ _ _ _) rfl (planC_one _ _ _ _ _) ?_)
    | fail)
  rw [World.setRow_alloc_new]
  obtain ⟨w2, hw2⟩ : ∃ w2, w2 = w1.alloc (.cells (planC B S C T L) 29) := ⟨_, rfl⟩
  rw [← hw2]
  have g2 : w2.heap[w1.heap.size]? = some (.cells (planC B S C T L) 29 (0, 0)) := by rw [hw2]; exact heap_alloc_new _ _
  have hB : Below W.heap.size W w2 := by rw [hw2]; exact hB1.alloc hB1.size _
  obtain ⟨p, hp⟩ : ∃ p, p = w1.heap.size := ⟨_, rfl⟩
  rw [← hp] at g2 hz1 ⊢
  have G2 := Lib.hid g2
  have HB := Lib.hid hB
  clear hw2 hp hb1 g2 hB hB1 HP
  cases ok with
  | false =>
    go_wp2_with fail
    refine (HFx.out _).mono ?_; rintro e w3 ⟨rfl, hb⟩
    have HB := Lib.hid (low_more HB.out hb)
    clear hb
    go_wp2_with fail
    go_ret
    exact ⟨rfl, HB.out⟩
  | true =>
    obtain ⟨hL, hC⟩ := hok rfl
    by_cases hn3 : 3000 < n
    · go_wp2_with fail
      refine (HFx.out _).mono ?_; rintro e w3 ⟨rfl, hb⟩
      have HB := Lib.hid (low_more HB.out hb)
      clear hb
      go_wp2_with fail
      go_ret
      exact ⟨rfl, HB.out⟩
    have hn : n ≤ 3000 := by omega
    have HL := Lib.hid hL
    have hCb := hL.bases
    have HC := Lib.hid (show 9 ≤ C ∧ C ≤ 9000 ∨ C < 9 from by omega)
    have hC0 : 3 ≤ C := by omega
    have heq : ∀ w, (Op.equalIn 10000 27 (.agg (six (needZ B S t n))) (.agg (six (needZ B S t n)))).run Try.prog w = .ok true w := eq_six (needZ B S t n) 9998
    have HEQ := Lib.hid heq
    clear hok hL hCb HC heq
    go_upto_region 4 with fail
    refine wp_region_by (fun (_ : Unit) j => [.agg (planC B S C T L), .int .i64 t, .int .i64 n, .agg (six (needZ B S t n)), .agg (planC B S C T L), .int .i64 t, .int .i64 n, .agg (six (needZ B S t n)), .bool false].getD j undef)
      (fun _ _ wx => wx.heap[p]? = some (.cells (planC B S C T L) 29 (0, 0)) ∧ Below W.heap.size W wx)
      (by kernel_rfl) (by kernel_rfl) (fun q => by simp only [putTo, dstOf, Act.put, List.size_toArray, List.length_cons, List.length_nil, List.getElem?_toArray, Nat.reduceAdd, Option.bind_some, List.getElem?_cons_zero, List.getElem?_cons_succ, List.setIfInBounds_toArray, List.set_cons_zero, List.set_cons_succ, List.getD_cons_zero, List.getD_cons_succ]; exact rfl) () ?_ ?_ ?_
    · exact ⟨G2.out, HB.out.drew⟩
    · intro i o ho q l wx hR hl _ K hK
      rcases i with _ | _ | _ | _ | _ | _ | _ | _ | _ | i
      · obtain rfl : _ = o := Option.some.inj ho
        refine wp_load_row 29 (.tmp 9) rfl p rfl 29 (planC B S C T L) (0, 0) _ hR.1 Try.underlying29 rfl (planC_info _ _ _ _ _) ?_
        exact hK () wx (fun _ _ => rfl) hR
      · obtain rfl : _ = o := Option.some.inj ho
        go_simp
        exact hK () wx (fun _ _ => rfl) hR
      · obtain rfl : _ = o := Option.some.inj ho
        go_simp
        exact hK () wx (fun _ _ => rfl) hR
      · obtain rfl : _ = o := Option.some.inj ho
        go_simp
        refine (HK.out.need wx B S C T L t n HL.out th0 th1 n0 hn).mono ?_; rintro e w3 ⟨rfl, hb⟩
        exact hK () w3 (fun _ _ => rfl) ⟨(hb.block _ (lt_of_heap hR.1)).trans hR.1, low_more hR.2 hb⟩
      · obtain rfl : _ = o := Option.some.inj ho
        refine wp_load_row 29 (.tmp 9) rfl p rfl 29 (planC B S C T L) (0, 0) _ hR.1 Try.underlying29 rfl (planC_info _ _ _ _ _) ?_
        exact hK () wx (fun _ _ => rfl) hR
      · obtain rfl : _ = o := Option.some.inj ho
        go_simp
        exact hK () wx (fun _ _ => rfl) hR
      · obtain rfl : _ = o := Option.some.inj ho
        go_simp
        exact hK () wx (fun _ _ => rfl) hR
      · obtain rfl : _ = o := Option.some.inj ho
        go_simp
        refine (ref_need_in HL.out T L t n n0 hn wx).mono ?_; rintro e w3 ⟨rfl, hb⟩
        exact hK () w3 (fun _ _ => rfl) ⟨(hb.block _ (lt_of_heap hR.1)).trans hR.1, low_more hR.2 hb⟩
      · obtain rfl : _ = o := Option.some.inj ho
        have heq := HEQ.out
        go_simp
        exact hK () wx (fun _ _ => rfl) hR
      · simp at ho
    intro _ l w3 _ hR
    have G3 := Lib.hid hR.1
    have HB3 := Lib.hid hR.2
    have c12 : w3.cell? ⟨p, 12, none⟩ = some (.int .i64 C) := cell_at hR.1 12
    clear hR G2 HB
    go_wp2_with fail
    refine (new_int w3 C (by omega) (by omega)).mono ?_; rintro e w4 ⟨rfl, hm, hb⟩
    obtain ⟨cb, hcb⟩ : ∃ cb, cb = w3.heap.size := ⟨_, rfl⟩
    rw [← hcb] at hm ⊢
    have hcz : W.heap.size < cb ∧ p < cb := by have := lt_of_heap G3.out; omega
    have G4 := Lib.hid ((hb.block p (lt_of_heap G3.out)).trans G3.out)
    have HB4 := Lib.hid (low_more HB3.out hb)
    have HPS := Lib.hid (PS.new HL.out (by omega) hm)
    have hmz := lt_of_heap hm.rec_
    clear hb hm hcb c12 G3 HB3
    go_upto_region 10 with fail
    have hw : (w4.alloc (.cells #[.int .i64 0, .int .i64 0, .int .i64 0, .int .i64 0, .int .i64 0, .int .i64 0] 27)) = w4.alloc (.cells (six fun _ => 0) 27) := rfl
    rw [hw]
    obtain ⟨q, hq⟩ : ∃ q, q = w4.heap.size := ⟨_, rfl⟩
    rw [← hq]
    have hN : NeedsAt W p q B S C T L (cb + 1) cb 0 (fun _ => 0) 0 (w4.alloc (.cells (six fun _ => 0) 27)) := ⟨heap_below G4.out, heap_top _ hq, HB4.out.alloc HB4.out.size _, fun _ => 0, _, _, rfl, HPS.out.below below_one⟩
    generalize w4.alloc (.cells (six fun _ => 0) 27) = w5 at hN ⊢
    have HBl := Lib.hid (show NeedsB W p q (cb + 1) cb from ⟨by omega, by omega, by omega, by omega, by omega, by omega, by omega, by omega, by omega⟩)
    have HN := Lib.hid hN
    obtain ⟨r, hr⟩ : ∃ r, r = ah % 90 := ⟨_, rfl⟩
    have r0 : IntKind.i64.wrap (ah : Int) = (ah : Int) := IntWalk.i64_in _ (by omega)
    have r1 : (ah : Int) % 90 = (r : Int) := by omega
    have r2 : (ah : Int).tmod 90 = (r : Int) := by rw [Int.tmod_eq_emod_of_nonneg (by omega)]; exact r1
    have r3 : IntKind.i64.wrap (r : Int) = (r : Int) := IntWalk.i64_in _ (by omega)
    have hr90 : r < 90 := by omega
    have ahi : (0 : Int) ≤ (ah : Int) := by omega
    clear hw hN hr hq hmz G4 HB4 HPS hcz
    go_wp2_with fail
    go_loopw [13, 15, 54] (fun tv ev iv wr => ∃ (i : Nat) (t1 : Int) (Us : Nat → Int), i ≤ r ∧ iv = .int .i64 i ∧ tv = .int .i64 t1 ∧ ev = .int .i64 0 ∧ NeedsAt W p q B S C T L (cb + 1) cb t1 Us (2 * i) wr) (fun _ _ iv _ => r - (intOf iv).toNat)
    case atStart => exact ⟨0, 0, fun _ => 0, by omega, rfl, rfl, rfl, HN.out⟩
    case round =>
      clear HN r0 r1 r2 r3
      obtain ⟨i, t1, Us, hi, rfl, rfl, rfl, hN⟩ := hrel
      have HN := Lib.hid hN
      obtain ⟨f1, f2, hb, tails, cs, D, ht, hps⟩ := hN
      have F1 := Lib.hid f1
      have F2 := Lib.hid f2
      by_cases hlt : i < r
      · have hlt1 : (i : Int) < (r : Int) := by omega
        have HC := Lib.hid (hps.put HK.out (T := T) (L := L) HL.out (by omega) (show 0 < 8 by omega) ht i (by omega))
        have hu3 : IntKind.u32.wrap (i : Int) = (i : Int) := IntWalk.u32_in _ (by omega)
        have HX := Lib.hid (And.intro hb (And.intro (lt_of_heap f1) (And.intro (lt_of_heap f2) hps.lt)))
        clear f1 f2 hb ht hps
        go_wp2_with (first
          | (refine wpList_load_row rfl 29 (.tmp 9) rfl p rfl 29 (planC B S C T L) (0, 0) _ F1.out Try.underlying29 rfl (planC_info _ _ _ _ _) ?_)
          | (refine wpList_load_row rfl 27 (.tmp 14) rfl q rfl 27 (six Us) (0, 0) _ F2.out Try.underlying27 rfl (six_info _) ?_)
          | fail)
        refine HC.out.mono ?_
        clear HC
        rintro e w6 ⟨hmod, hres⟩
        obtain ⟨hb, hpl, hql, hml, hcl⟩ := HX.out
        obtain ⟨bp, bq, bm, bc, npq, npm, npc, nqm, nqc⟩ := HBl.out
        have f1 := (hmod.block p hpl (by omega)).trans F1.out
        have f2 := (hmod.block q hql (by omega)).trans F2.out
        have hb6 : Below W.heap.size W w6 := hb.trans (hmod.below hb.size fun k hk e => by omega)
        have F1 := Lib.hid f1
        have F2 := Lib.hid f2
        have HB6 := Lib.hid hb6
        clear hmod f1 f2 hb6 hb hpl hql hml hcl HX HN bp bq bm bc npq npm npc nqm nqc
        rcases hres with ⟨V, rfl, _, _, _⟩ | ⟨t', U', cs', D', rfl, hps, _⟩
        · go_wp2_with (first
            | (refine wpList_store_row rfl 27 (.tmp 14) (.tmp 66) rfl q (six V) rfl rfl 27 (six Us) F2.out (six_info _) rfl (six_one _) ?_)
            | fail)
          refine (HFx.out _).mono ?_; rintro e w7 ⟨rfl, hb⟩
          have HB7 := Lib.hid (low_more (below_setRow HB6.out HBl.out.2.1 _) hb)
          clear hb
          go_wp2_with fail
          go_ret
          exact ⟨rfl, HB7.out⟩
        · have HPS := Lib.hid hps
          clear hps
          go_wp2_with (first
            | (refine wpList_store_row rfl 27 (.tmp 14) (.tmp 66) rfl q (six U') rfl rfl 27 (six Us) F2.out (six_info _) rfl (six_one _) ?_)
            | fail)
          go_roundw
          case rel =>
            obtain ⟨bp, bq, bm, bc, npq, npm, npc, nqm, nqc⟩ := HBl.out
            exact ⟨i + 1, t', U', by omega, by go_num, rfl, rfl, (setRow_other _ _ _ _ npq).trans F1.out, setRow_heap _ _ _ _ _ _ F2.out, below_setRow HB6.out bq _, _, _, _, rfl, HPS.out.setRow _ nqm nqc⟩
          case measure => simp [intOf]; omega
      · obtain rfl : i = r := by omega
        have hlt1 : ¬ (i : Int) < (i : Int) := by omega
        have hrt : rightT B S t1 := by
          rcases hps.inv.tail 0 (by omega) with h0 | ⟨k', z', r', hz', _, hr0', hr1', htz', _, _⟩
          · exact .inl (by rw [← ht]; exact h0)
          · right
            rw [← ht, htz', (HL.out.in_slab hz' (by omega) hr1').2]
            exact hr0'
        have htr : -9223372036854775808 ≤ t1 ∧ t1 ≤ 9223372036854775807 := by
          rcases hrt with h0 | h0
          · omega
          · have := HL.out.at_ h0
            omega
        have hus := hps.inv.used
        obtain ⟨m, hm⟩ : ∃ m, m = (if (50 : Int) < n then (50 : Int) else n) := ⟨_, rfl⟩
        have hm50 : m ≤ 50 ∧ -9223372036854775808 ≤ m := by rw [hm]; split <;> omega
        have hkb : ∀ (ts : Array TypeId) (t : TypeId) (w : World), (Builtin.min_ ts t #[.int .i64 n, .int .i64 50]).run Try.prog w = .ok (.int .i64 m) w := fun ts t w => by rw [run_min_int2, ← hm]
        obtain ⟨need, hneed⟩ : ∃ need, need = needZ B S t1 m := ⟨_, rfl⟩
        have HNd := Lib.hid (fun w => HK.out.need w B S C T L t1 m HL.out htr.1 htr.2 hm50.2 (by omega))
        rw [← hneed] at HNd
        have HND := Lib.hid (show ∀ j, need j = needS m.toNat (leftT B S t1) (nextT B S t1) j from fun j => by rw [hneed]; unfold needZ; rw [if_pos hrt])
        have HU := Lib.hid hus
        have HSZ := Lib.hid (show ∀ j, j < 6 → S j ≤ 1000000 from fun j hj => by have := HL.out.pool hj; omega)
        have hqz := lt_of_heap f2
        have hpz := lt_of_heap f1
        have hml := hps.lt
        clear f1 f2 hb hps ht hrt htr hus hm hneed
        go_upto_region 17 with fail
        refine wp_region_by (fun (z : Nat × Nat) j => [.agg (planC B S C T L), .int .i64 t1, .int .i64 n, .int .i64 m, .agg (six need), .agg (six Us), .pointer (some ⟨z.1, 0, none⟩), .pointer (some ⟨z.2, 0, none⟩), undef, undef].getD j undef)
          (fun z l wx => NeedsAt W p q B S C T L (cb + 1) cb t1 Us (2 * i) wx ∧ wr.heap.size ≤ wx.heap.size ∧ (l 8 = true → l 6 = true) ∧ (l 9 = true → l 7 = true) ∧ (l 6 = true → wr.heap.size ≤ z.1 ∧ wx.heap[z.1]? = some (.cells (six (if l 8 then need else fun _ => 0)) 27 (0, 0))) ∧ (l 7 = true → wr.heap.size ≤ z.2 ∧ wx.heap[z.2]? = some (.cells (six (if l 9 then Us else fun _ => 0)) 27 (0, 0))) ∧ (l 6 = true → l 7 = true → z.1 ≠ z.2))
          (by kernel_rfl) (by kernel_rfl) (fun q => by simp only [putTo, dstOf, Act.put, List.size_toArray, List.length_cons, List.length_nil, List.getElem?_toArray, Nat.reduceAdd, Option.bind_some, List.getElem?_cons_zero, List.getElem?_cons_succ, List.setIfInBounds_toArray, List.set_cons_zero, List.set_cons_succ, List.getD_cons_zero, List.getD_cons_succ]; exact rfl) (0, 0) ?_ ?_ ?_
        · exact ⟨HN.out.below (below_drawn (Below.refl _ _) 1), Nat.le_refl _, (fun h => by cases h), (fun h => by cases h), (fun h => by cases h), (fun h => by cases h), (fun h => by cases h)⟩
        · intro x o ho z l wx hR hl he K hK
          obtain ⟨hA, hsz, h86, h97, h6, h7, h67⟩ := hR
          have keep : ∀ w', Below wx.heap.size wx w' → NeedsAt W p q B S C T L (cb + 1) cb t1 Us (2 * i) w' ∧ wr.heap.size ≤ w'.heap.size ∧ (l 6 = true → wr.heap.size ≤ z.1 ∧ w'.heap[z.1]? = some (.cells (six (if l 8 then need else fun _ => 0)) 27 (0, 0))) ∧ (l 7 = true → wr.heap.size ≤ z.2 ∧ w'.heap[z.2]? = some (.cells (six (if l 9 then Us else fun _ => 0)) 27 (0, 0))) :=
            fun w' hb => ⟨hA.below hb, Nat.le_trans hsz hb.size, fun h => ⟨(h6 h).1, (hb.block _ (lt_of_heap (h6 h).2)).trans (h6 h).2⟩, fun h => ⟨(h7 h).1, (hb.block _ (lt_of_heap (h7 h).2)).trans (h7 h).2⟩⟩
          rcases x with _ | _ | _ | _ | _ | _ | _ | _ | _ | _ | x
          · obtain rfl : _ = o := Option.some.inj ho
            refine wp_load_row 29 (.tmp 9) rfl p rfl 29 (planC B S C T L) (0, 0) _ hA.1 Try.underlying29 rfl (planC_info _ _ _ _ _) ?_
            exact hK z wx (fun _ _ => rfl) ⟨hA, hsz, h86, h97, h6, h7, h67⟩
          · obtain rfl : _ = o := Option.some.inj ho
            go_simp
            exact hK z wx (fun _ _ => rfl) ⟨hA, hsz, h86, h97, h6, h7, h67⟩
          · obtain rfl : _ = o := Option.some.inj ho
            go_simp
            exact hK z wx (fun _ _ => rfl) ⟨hA, hsz, h86, h97, h6, h7, h67⟩
          · obtain rfl : _ = o := Option.some.inj ho
            go_simp
            exact hK z wx (fun _ _ => rfl) ⟨hA, hsz, h86, h97, h6, h7, h67⟩
          · obtain rfl : _ = o := Option.some.inj ho
            go_simp
            refine (HNd.out wx).mono ?_; rintro e w7 ⟨rfl, hb⟩
            obtain ⟨k1, k2, k3, k4⟩ := keep w7 hb
            exact hK z w7 (fun _ _ => rfl) ⟨k1, k2, h86, h97, k3, k4, h67⟩
          · obtain rfl : _ = o := Option.some.inj ho
            refine wp_load_row 27 (.tmp 14) rfl q rfl 27 (six Us) (0, 0) _ hA.2.1 Try.underlying27 rfl (six_info _) ?_
            exact hK z wx (fun _ _ => rfl) ⟨hA, hsz, h86, h97, h6, h7, h67⟩
          · obtain rfl : _ = o := Option.some.inj ho
            have h8 : l 8 = false := by
              cases h : l 8 with
              | false => rfl
              | true => have := h86 h; rw [hl] at this; cases this
            go_simp
            obtain ⟨k1, k2, k3, k4⟩ := keep _ (below_one (A := .cells (six fun _ => 0) 27))
            refine hK (wx.heap.size, z.2) _ (fun j hj => ?_) ⟨k1, k2, (fun _ => rfl), h97, (fun _ => ⟨by omega, ?_⟩), k4, fun _ h => ?_⟩
            · rcases j with _ | _ | _ | _ | _ | _ | _ | _ | _ | _ | j
              all_goals first | rfl | (rw [hl] at hj; cases hj)
            · rw [if_neg (by show ¬ ((8 == 6 || l 8) = true); rw [h8]; decide)]
              exact heap_alloc_new _ _
            · have := lt_of_heap (h7 h).2
              show wx.heap.size ≠ z.2
              omega
          · obtain rfl : _ = o := Option.some.inj ho
            have h9 : l 9 = false := by
              cases h : l 9 with
              | false => rfl
              | true => have := h97 h; rw [hl] at this; cases this
            go_simp
            obtain ⟨k1, k2, k3, k4⟩ := keep _ (below_one (A := .cells (six fun _ => 0) 27))
            refine hK (z.1, wx.heap.size) _ (fun j hj => ?_) ⟨k1, k2, h86, (fun _ => rfl), k3, (fun _ => ⟨by omega, ?_⟩), fun h _ => ?_⟩
            · rcases j with _ | _ | _ | _ | _ | _ | _ | _ | _ | _ | j
              all_goals first | rfl | (rw [hl] at hj; cases hj)
            · rw [if_neg (by show ¬ ((9 == 7 || l 9) = true); rw [h9]; decide)]
              exact heap_alloc_new _ _
            · have := lt_of_heap (h6 h).2
              show z.1 ≠ wx.heap.size
              omega
          · obtain rfl : _ = o := Option.some.inj ho
            have l6 := he ⟨6, .data⟩ (by simp) rfl
            obtain ⟨z0, z1⟩ := h6 l6
            refine wp_store_row 27 (.tmp 17) (.tmp 76) rfl z.1 (six need) rfl rfl 27 _ z1 (six_info _) rfl (six_one _) ?_
            refine hK z _ (fun _ _ => rfl) ⟨?_, by simpa using hsz, (fun _ => l6), h97, (fun _ => ⟨z0, setRow_heap _ _ _ _ _ _ z1⟩), (fun h => ⟨(h7 h).1, (setRow_other _ _ _ _ (Ne.symm (h67 l6 h))).trans (h7 h).2⟩), h67⟩
            obtain ⟨a1, a2, a3, tails', cs', D', a4, a5⟩ := hA
            have := a5.lt
            obtain ⟨bp, bq, bm, bc, npq, npm, npc, nqm, nqc⟩ := HBl.out
            exact ⟨(setRow_other _ _ _ _ (by omega)).trans a1, (setRow_other _ _ _ _ (by omega)).trans a2, below_setRow a3 (by have := HN.out.2.2.1.size; omega) _, tails', cs', D', a4, a5.setRow _ (by have := hml; omega) (by have := hml; omega)⟩
          · obtain rfl : _ = o := Option.some.inj ho
            have l7 := he ⟨7, .data⟩ (by simp) rfl
            obtain ⟨z0, z1⟩ := h7 l7
            refine wp_store_row 27 (.tmp 18) (.tmp 77) rfl z.2 (six Us) rfl rfl 27 _ z1 (six_info _) rfl (six_one _) ?_
            refine hK z _ (fun _ _ => rfl) ⟨?_, by simpa using hsz, h86, (fun _ => l7), (fun h => ⟨(h6 h).1, (setRow_other _ _ _ _ (h67 h l7)).trans (h6 h).2⟩), (fun _ => ⟨z0, setRow_heap _ _ _ _ _ _ z1⟩), h67⟩
            obtain ⟨a1, a2, a3, tails', cs', D', a4, a5⟩ := hA
            obtain ⟨bp, bq, bm, bc, npq, npm, npc, nqm, nqc⟩ := HBl.out
            exact ⟨(setRow_other _ _ _ _ (by omega)).trans a1, (setRow_other _ _ _ _ (by omega)).trans a2, below_setRow a3 (by have := HN.out.2.2.1.size; omega) _, tails', cs', D', a4, a5.setRow _ (by have := hml; omega) (by have := hml; omega)⟩
          · simp at ho
        intro z l w6 hl hR
        obtain ⟨hA, hsz, _, _, h6, h7, _⟩ := hR
        have g6 := (h6 (hl 6 (by decide))).2
        have g7 := (h7 (hl 7 (by decide))).2
        have z6 := (h6 (hl 6 (by decide))).1
        have z7 := (h7 (hl 7 (by decide))).1
        rw [if_pos (hl 8 (by decide))] at g6
        rw [if_pos (hl 9 (by decide))] at g7
        obtain ⟨za, zb⟩ := z
        have HA := Lib.hid hA
        have HG := Lib.hid (And.intro g6 (And.intro g7 (And.intro z6 (And.intro z7 hsz))))
        have G6 := Lib.hid g6
        have F1 := Lib.hid hA.1
        have F2 := Lib.hid hA.2.1
        clear hA hsz h6 h7 g6 g7 z6 z7 hl HN HNd
        go_wp2_with (first
          | (refine wpList_load_row rfl 29 (.tmp 9) rfl p rfl 29 (planC B S C T L) (0, 0) _ F1.out Try.underlying29 rfl (planC_info _ _ _ _ _) ?_)
          | (refine wpList_load_row rfl 27 (.tmp 14) rfl q rfl 27 (six Us) (0, 0) _ F2.out Try.underlying27 rfl (six_info _) ?_)
          | (refine wpList_load_row rfl 27 (.tmp 17) rfl za rfl 27 (six need) (0, 0) _ G6.out Try.underlying27 rfl (six_info _) ?_)
          | fail)
        refine (ref_fits_any _ B S C T L Us need HSZ.out).mono ?_
        cases hfit : fitsB Us need S with
        | false =>
          rintro e w7 ⟨rfl, hb⟩
          have HB7 := Lib.hid (low_more HA.out.2.2.1 hb)
          clear hb
          go_wp2_with fail
          refine (HFx.out _).mono ?_; rintro e w8 ⟨rfl, hb⟩
          have HB8 := Lib.hid (low_more HB7.out hb)
          clear hb
          go_wp2_with fail
          go_ret
          exact ⟨rfl, HB8.out⟩
        | true =>
          rintro e w7 ⟨rfl, hb⟩
          have HFit := Lib.hid (show ∀ j, j < 6 → need j ≤ S j - Us j from fun j hj => by
            unfold fitsB at hfit
            have := okJ_iff.1 (List.all_eq_true.1 hfit j (List.mem_range.2 hj))
            exact this.2.2.2)
          have HA := Lib.hid (HA.out.below hb)
          have HG := Lib.hid (show w7.heap[za]? = some (.cells (six need) 27 (0, 0)) ∧ w7.heap[zb]? = some (.cells (six Us) 27 (0, 0)) ∧ wr.heap.size ≤ za ∧ wr.heap.size ≤ zb from ⟨(hb.block _ (lt_of_heap HG.out.1)).trans HG.out.1, (hb.block _ (lt_of_heap HG.out.2.1)).trans HG.out.2.1, HG.out.2.2.1, HG.out.2.2.2.1⟩)
          obtain ⟨M, hM⟩ : ∃ M, M = m.toNat := ⟨_, rfl⟩
          have HM := Lib.hid hM
          have hM50 : M ≤ 50 := by omega
          rw [← hM] at HND
          clear hb hfit hM F1 F2 G6
          have HI := Lib.hid (show ∀ j, j < 6 → Us j + needS (M - 0) (leftT B S t1) (nextT B S t1) j = Us j + need j from fun j _ => by rw [HND.out j]; rfl)
          go_wp2_with fail
          go_loopw [13, 15, 86] (fun tv ev iv wx => ∃ (x : Nat) (t2 : Int) (U2 : Nat → Int), x ≤ M ∧ iv = .int .i64 x ∧ tv = .int .i64 t2 ∧ ev = .int .i64 0 ∧ NeedsAt W p q B S C T L (cb + 1) cb t2 U2 (2 * i + 2 * x) wx ∧ wx.heap[za]? = some (.cells (six need) 27 (0, 0)) ∧ wx.heap[zb]? = some (.cells (six Us) 27 (0, 0)) ∧ Hid (∀ j, j < 6 → U2 j + needS (M - x) (leftT B S t2) (nextT B S t2) j = Us j + need j)) (fun _ _ iv _ => M - (intOf iv).toNat)
          case atStart => exact ⟨0, t1, Us, by omega, rfl, rfl, rfl, HA.out, HG.out.1, HG.out.2.1, HI⟩
          case round =>
            clear HA HI
            obtain ⟨x, t2, U2, hx, rfl, rfl, rfl, hA, ga, gb, HI⟩ := hrel
            have HA := Lib.hid hA
            obtain ⟨f1, f2, hb, tails, cs, D, ht, hps⟩ := hA
            have F1 := Lib.hid f1
            have F2 := Lib.hid f2
            have GA := Lib.hid ga
            have GB := Lib.hid gb
            by_cases hlx : x < M
            · have hlx1 : (x : Int) < m := by have := HM.out; omega
              have HC := Lib.hid (hps.put HK.out (T := T) (L := L) HL.out (by omega) (show 0 < 8 by omega) ht x (by omega))
              have hu3 : IntKind.u32.wrap (x : Int) = (x : Int) := IntWalk.u32_in _ (by omega)
              have HX := Lib.hid (And.intro hb (And.intro (lt_of_heap f1) (And.intro (lt_of_heap f2) hps.lt)))
              clear f1 f2 hb ht hps ga gb
              go_wp2_with (first
                | (refine wpList_load_row rfl 29 (.tmp 9) rfl p rfl 29 (planC B S C T L) (0, 0) _ F1.out Try.underlying29 rfl (planC_info _ _ _ _ _) ?_)
                | (refine wpList_load_row rfl 27 (.tmp 14) rfl q rfl 27 (six U2) (0, 0) _ F2.out Try.underlying27 rfl (six_info _) ?_)
                | fail)
              refine HC.out.mono ?_
              clear HC
              rintro e w8 ⟨hmod, hres⟩
              obtain ⟨hb, hpl, hql, hml2, hcl⟩ := HX.out
              obtain ⟨bp, bq, bm, bc, npq, npm, npc, nqm, nqc⟩ := HBl.out
              obtain ⟨_, _, za0, zb0⟩ := HG.out
              have f1 := (hmod.block p hpl (by omega)).trans F1.out
              have f2 := (hmod.block q hql (by omega)).trans F2.out
              have ga := (hmod.block za (lt_of_heap GA.out) (by omega)).trans GA.out
              have gb := (hmod.block zb (lt_of_heap GB.out) (by omega)).trans GB.out
              have hb6 : Below W.heap.size W w8 := hb.trans (hmod.below hb.size fun k hk e => by omega)
              have F1 := Lib.hid f1
              have F2 := Lib.hid f2
              have GA := Lib.hid ga
              have GB := Lib.hid gb
              have HB6 := Lib.hid hb6
              obtain ⟨y, hy⟩ : ∃ y, M - x = y + 1 := ⟨M - x - 1, by omega⟩
              have hy2 : M - (x + 1) = y := by omega
              rw [hy] at HI
              have HY := Lib.hid hy2
              have HZZ := Lib.hid (And.intro za0 zb0)
              clear hmod f1 f2 ga gb hb6 hb hpl hql hml2 hcl HX HA bp bq bm bc npq npm npc nqm nqc za0 zb0 hy hy2
              rcases hres with ⟨V, rfl, e1, e2, _⟩ | ⟨t', U', cs', D', rfl, hps, hok⟩
              · exfalso
                have hk4 : nextT B S t2 < 4 := by unfold nextT; split; omega; split <;> omega
                have h1 := HI.out (nextT B S t2) (by omega)
                have h2 := needS_room (n := y) (k := nextT B S t2) (j := nextT B S t2) e1
                rw [if_pos rfl] at h2
                have h3 := HFit.out (nextT B S t2) (by omega)
                omega
              · have HPS := Lib.hid hps
                have HUs := Lib.hid hok.used
                clear hps hok
                go_wp2_with (first
                  | (refine wpList_store_row rfl 27 (.tmp 14) (.tmp 98) rfl q (six U') rfl rfl 27 (six U2) F2.out (six_info _) rfl (six_one _) ?_)
                  | fail)
                go_roundw
                case rel =>
                  obtain ⟨bp, bq, bm, bc, npq, npm, npc, nqm, nqc⟩ := HBl.out
                  have hzz := HZZ.out
                  refine ⟨x + 1, t', U', by omega, by go_num, rfl, rfl, ⟨(setRow_other _ _ _ _ npq).trans F1.out, setRow_heap _ _ _ _ _ _ F2.out, below_setRow HB6.out bq _, setT tails 0 t', cs', D', rfl, HPS.out.setRow _ nqm nqc⟩, (setRow_other _ _ _ _ (by omega)).trans GA.out, (setRow_other _ _ _ _ (by omega)).trans GB.out, Lib.hid fun j hj => ?_⟩
                  have h := HI.out j hj
                  rw [needS_succ] at h
                  rw [HY.out]
                  rcases HUs.out with ⟨c1, rfl, c2, c3⟩ | ⟨c1, _, rfl, c2, c3⟩
                  · rw [if_neg c1] at h
                    rw [c2, c3]
                    exact h
                  · rw [if_pos c1] at h
                    rw [c2, c3, ← h]
                    unfold more
                    split <;> rename_i e <;> simp [e] <;> omega
                case measure => simp [intOf]; omega
            · have hxM : x = M := by omega
              subst hxM
              have hlx1 : ¬ (x : Int) < m := by have := HM.out; omega
              have HV := Lib.hid (show ∀ j, j < 6 → U2 j - Us j = need j ∧ -1000000 ≤ need j ∧ need j ≤ 1000000 from fun j hj => by
                have h := HI.out j hj
                rw [Nat.sub_self] at h
                have h1 := hps.inv.used j hj
                have h2 := HU.out j hj
                have h3 := HSZ.out j hj
                simp only [needS] at h
                omega)
              have HB2 := Lib.hid hb
              clear f1 f2 hb ht hps ga gb
              go_wp2_with fail
              go_loopw [103] (fun iv wy => ∃ (k : Nat), k ≤ 6 ∧ iv = .int .i64 k ∧ wy.heap[q]? = some (.cells (six U2) 27 (0, 0)) ∧ wy.heap[za]? = some (.cells (six need) 27 (0, 0)) ∧ wy.heap[zb]? = some (.cells (six Us) 27 (0, 0)) ∧ Below W.heap.size W wy) (fun iv _ => 6 - (intOf iv).toNat)
              case atStart => exact ⟨0, by omega, rfl, F2.out, GA.out, GB.out, HB2.out⟩
              case round =>
                clear F2 GA GB HB2 HA F1
                obtain ⟨k, hk, rfl, g1, g2, g3, hb⟩ := hrel
                by_cases hlk : k < 6
                · have hlk1 : (k : Int) < 6 := by omega
                  obtain ⟨v1, v2, v3⟩ := HV.out k hlk
                  obtain ⟨a1, ha1⟩ : ∃ a1, a1 = U2 k := ⟨_, rfl⟩
                  obtain ⟨a2, ha2⟩ : ∃ a2, a2 = Us k := ⟨_, rfl⟩
                  obtain ⟨a3, ha3⟩ : ∃ a3, a3 = need k := ⟨_, rfl⟩
                  have c1 : wr.cell? ⟨q, k, none⟩ = some (.int .i64 a1) := by rw [ha1]; exact (cell_at g1 k).trans (six_get _ k hlk)
                  have c2 : wr.cell? ⟨za, k, none⟩ = some (.int .i64 a3) := by rw [ha3]; exact (cell_at g2 k).trans (six_get _ k hlk)
                  have c3 : wr.cell? ⟨zb, k, none⟩ = some (.int .i64 a2) := by rw [ha2]; exact (cell_at g3 k).trans (six_get _ k hlk)
                  rw [← ha1, ← ha2, ← ha3] at v1
                  rw [← ha3] at v2 v3
                  have w1' : IntKind.i64.wrap a3 = a3 := IntWalk.i64_in _ (by omega)
                  have HGG := Lib.hid (And.intro g1 (And.intro g2 (And.intro g3 hb)))
                  clear g1 g2 g3 hb ha1 ha2 ha3 v2 v3
                  go_wp2_with fail
                  go_quiet (fail)
                  go_wp2_with fail
                  go_roundw
                  case rel =>
                    obtain ⟨g1, g2, g3, hb⟩ := HGG.out
                    exact ⟨k + 1, by omega, by go_num, g1, g2, g3, below_drawn hb _⟩
                  case measure => simp [intOf]; omega
                · have hlk1 : ¬ (k : Int) < 6 := by omega
                  have HB9 := Lib.hid hb
                  clear g1 g2 g3 hb
                  go_wp2_with fail
                  refine (HFx.out _).mono ?_; rintro e w9 ⟨rfl, hb⟩
                  have HB9 := Lib.hid (low_more HB9.out hb)
                  clear hb
                  go_wp2_with fail
                  go_ret
                  exact ⟨rfl, HB9.out⟩
end Go.Proofs.Ytiabmbkmahlhkaa
