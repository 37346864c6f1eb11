/-
  A walk from a tail reads just what was added up to it, the newest first; also from tails of long ago: the law's walk. Over the program's own text.
-/
import Derived.Test.YtiabmbkmahlhkaaPostBackR
namespace Go.Proofs.Ytiabmbkmahlhkaa
open Go.RowKit

theorem news_one {w : World} {b : Nat} {v : Value} {t : TypeId} (h : w.heap[b]? = some (.cells #[v] t (0, 0))) : ∀ (j : Nat) (u : Value), [v][j]? = some u → w.cell? ((⟨b, 0, none⟩ : Addr).add j) = some u := by
  intro j u hj
  rcases j with _ | j
  · simp at hj
    subst hj
    rw [Addr.add_lit]
    exact cell_at h 0
  · simp at hj

set_option maxRecDepth 100000 in
set_option maxHeartbeats 20000000 in
theorem back_walk {walkP : (Nat → Int) → (Nat → Int) → Int → Int → Pr (List Nat)} (K : KeptPost walkP) (W : World) (d t0 : Int) (s0 : Nat → Int) (bk rm : Int) (kf bf : Nat) (ao1 : Option Addr) (n1 c1 : Nat) (E1 : Nat → OpOf) (hE1 : OpsAt W ao1 n1 E1) :
    Calls Try.prog 3 #[.agg (confC d t0 s0 bk rm kf bf), .slice ao1 n1 c1] W fun e w' => e = .returned (.bool true) ∧ Below W.heap.size W w' := by
  obtain ⟨B, S, C, T, L, ok, hok, hplan⟩ := plan_at d t0 s0 bk rm kf bf
  have HP := Lib.hid hplan
  have HFx := Lib.hid (fixed_any K)
  have HK := Lib.hid K
  have s1 := hE1.short
  have HE1 := Lib.hid hE1
  unfold maxLen at s1
  clear hplan K hE1
  go_enter Try.func3, Try.ntmps3
  go_wp2_with (refine wpList_load_row rfl 25 (.tmp 2) rfl W.heap.size rfl 25 (confC d t0 s0 bk rm kf bf) (0, 0) _ (heap_alloc_new W _) Try.underlying25 rfl (by kernel_rfl) ?_)
  refine (HP.out _).mono ?_; rintro e w1 ⟨rfl, hb1⟩
  have hB1 : Below W.heap.size W w1 := low_more below_one hb1
  have hz1 : W.heap.size < w1.heap.size := by have := hb1.size; simp at this; omega
  go_upto_region 2 with (first
    | (refine wpList_store_row rfl 29 (.tmp 5) (.tmp 28) rfl w1.heap.size (planC B S C T L) rfl rfl 29 (planC (fun _ => 0) (fun _ => 0) 0 0 0) (heap_alloc_new w1 _) (planC_info _ _ _ _ _) rfl (planC_one _ _ _ _ _) ?_)
    | fail)
  rw [World.setRow_alloc_new]
  obtain ⟨w2, hw2⟩ : ∃ w2, w2 = w1.alloc (.cells (planC B S C T L) 29) := ⟨_, rfl⟩
  rw [← hw2]
  have g2 : w2.heap[w1.heap.size]? = some (.cells (planC B S C T L) 29 (0, 0)) := by rw [hw2]; exact heap_alloc_new _ _
  have hB : Below W.heap.size W w2 := by rw [hw2]; exact hB1.alloc hB1.size _
  obtain ⟨p, hp⟩ : ∃ p, p = w1.heap.size := ⟨_, rfl⟩
  rw [← hp] at g2 hz1 ⊢
  have G2 := Lib.hid g2
  have HB := Lib.hid hB
  clear hw2 hp hb1 hB hB1 HP
  cases ok with
  | false =>
    clear g2
    go_wp2_with fail
    refine (HFx.out _).mono ?_; rintro e w3 ⟨rfl, hb⟩
    have HB := Lib.hid (low_more HB.out hb)
    clear hb
    go_wp2_with fail
    go_ret
    exact ⟨rfl, HB.out⟩
  | true =>
    obtain ⟨hL, hC⟩ := hok rfl
    have HL := Lib.hid hL
    have hCb := hL.bases
    have hC0 : 3 ≤ C := by omega
    have c12 : w2.cell? ⟨p, 12, none⟩ = some (.int .i64 C) := cell_at g2 12
    clear hok hL hCb g2
    go_wp2_with fail
    refine (new_int w2 C (by omega) (by omega)).mono ?_; rintro e w4 ⟨rfl, hm, hb⟩
    obtain ⟨cb, hcb⟩ : ∃ cb, cb = w2.heap.size := ⟨_, rfl⟩
    rw [← hcb] at hm ⊢
    have hcz : p < cb := by have := lt_of_heap G2.out; omega
    have G4 := Lib.hid ((hb.block p (lt_of_heap G2.out)).trans G2.out)
    have HB4 := Lib.hid (low_more HB.out hb)
    have HPS := Lib.hid (PS.new HL.out (by omega) hm)
    have hmz := lt_of_heap hm.rec_
    clear hb hm hcb c12 G2 HB
    go_upto_region 10 with fail
    obtain ⟨ba, hba⟩ : ∃ ba, ba = w4.heap.size := ⟨_, rfl⟩
    obtain ⟨w5, hw5⟩ : ∃ w5, w5 = (((w4.alloc (.cells (vals8 fun _ => .slice none 0 0) 38)).alloc (.cells (vals8 fun _ => .slice none 0 0) 40)).alloc (.cells (six fun _ => 0) 27)) := ⟨_, rfl⟩
    have hw : (((w4.alloc (.cells #[.slice none 0 0, .slice none 0 0, .slice none 0 0, .slice none 0 0, .slice none 0 0, .slice none 0 0, .slice none 0 0, .slice none 0 0] 38)).alloc (.cells #[.slice none 0 0, .slice none 0 0, .slice none 0 0, .slice none 0 0, .slice none 0 0, .slice none 0 0, .slice none 0 0, .slice none 0 0] 40)).alloc (.cells #[.int .i64 0, .int .i64 0, .int .i64 0, .int .i64 0, .int .i64 0, .int .i64 0] 27)) = w5 := by rw [hw5]; rfl
    rw [hw, show w4.heap.size = ba from hba.symm]
    have hs5 : w5.heap.size = ba + 3 := by rw [hw5, hba]; simp
    have hF : BK W p (ba + 2) ba (ba + 1) (cb + 1) cb (ba + 3) B S C T L (fun _ => 0) (List.replicate C.toNat 0) (fun _ => False) (fun _ => 0) (fun _ => .slice none 0 0) (fun _ => .slice none 0 0) (fun _ => []) (fun _ => []) 0 0 w5 := by
      rw [hw5]
      refine ⟨heap_below (heap_below (heap_below G4.out)), heap_top _ (by simp; omega), heap_below (heap_below (heap_top _ hba)), heap_below (heap_top _ (by simp; omega)), HPS.out.below below_al3, ⟨fun i _ => OwnN.nil _ _ _ _, fun i j g _ _ _ h => by cases h⟩, ⟨fun i _ => OwnN.nil _ _ _ _, fun i j g _ _ _ h => by cases h⟩, ⟨fun i _ => rfl, fun i _ => ⟨rfl, Nat.le_refl _⟩, fun i j x _ h => by simp at h⟩, low_more HB4.out below_al3, by simp; omega⟩
    have HOb := Lib.hid (show BKO W p (ba + 2) ba (ba + 1) (cb + 1) cb (ba + 3) from by have := HB4.out.size; exact ⟨by omega, by omega, by omega, by omega, by omega, by omega, by omega, by omega, by omega, by omega, by omega, by omega⟩)
    have HNe := Lib.hid (show p ≠ ba + 2 ∧ ba ≠ ba + 2 ∧ ba + 1 ≠ ba + 2 from ⟨by omega, by omega, by omega⟩)
    have HNm := Lib.hid (show ¬ cb + 1 = ba + 2 ∧ ¬ cb = ba + 2 from ⟨by omega, by omega⟩)
    have HF := Lib.hid hF
    have hbz : cb + 1 < ba := by omega
    clear hw hw5 hF G4 HB4 HPS hba hs5
    go_upto_block 0 with fail
    go_cut [] (fun wx => ∃ N Us cs D tails VA VT A TT, N ≤ 61 ∧ BK W p (ba + 2) ba (ba + 1) (cb + 1) cb (ba + 3) B S C T L Us cs D tails VA VT A TT (2 * N) N wx)
    case first =>
      go_wp2_with fail
      go_loopw [43] (fun iv wr => ∃ (i : Nat) (Us : Nat → Int) (cs : List Int) (D : Int → Prop) (tails : Nat → Int) (VA VT : Nat → Value) (A TT : Nat → List Nat), i ≤ n1 ∧ i ≤ 61 ∧ iv = .int .i64 i ∧ BK W p (ba + 2) ba (ba + 1) (cb + 1) cb (ba + 3) B S C T L Us cs D tails VA VT A TT (2 * i) i wr) (fun iv _ => n1 - (intOf iv).toNat)
      case atStart => exact ⟨0, _, _, _, _, _, _, _, _, by omega, by omega, rfl, HF.out⟩
      case round =>
        clear HF
        obtain ⟨i, Us, cs, D, tails, VA, VT, A, TT, hi, hi61, rfl, hA⟩ := hrel
        have hbw := hA.low
        have HA := Lib.hid hA
        clear hA
        by_cases hlt : i < n1
        · have hlt1 : (i : Int) < (n1 : Int) := by omega
          obtain ⟨b, off, rfl, _, k1, k2, ht, hx⟩ := (HE1.out.below hbw).cell i hlt
          obtain ⟨xt, x, hE⟩ : ∃ xt x, E1 i = ⟨xt, x⟩ := ⟨_, _, rfl⟩
          rw [hE] at k1 k2 ht hx
          simp only at k1 k2 ht hx
          clear hE hbw
          go_upto_region 13 with fail
          obtain ⟨wx, hwx⟩ : ∃ wx, wx = wr.alloc (.cells #[.int .u8 (xt : Int), .int .u32 (x : Int)] 43) := ⟨_, rfl⟩
          rw [show wr.alloc (.cells #[.int .u8 (xt : Int), .int .u32 (x : Int)] 43) = wx from hwx.symm]
          have hX : wx.heap[wr.heap.size]? = some (.cells #[.int .u8 (xt : Int), .int .u32 (x : Int)] 43 (0, 0)) := by rw [hwx]; exact heap_alloc_new wr _
          have hxb0 : ba + 3 ≤ wr.heap.size := HA.out.base_
          have HA := Lib.hid (HA.out.below (show Below wr.heap.size wr wx by rw [hwx]; exact below_one))
          obtain ⟨xb, hxb⟩ : ∃ xb, xb = wr.heap.size := ⟨_, rfl⟩
          rw [← hxb] at hX hxb0 ⊢
          clear hwx hxb k1 k2
          have k1 := cell_at hX 0
          have k2 := cell_at hX 1
          have HX := Lib.hid hX
          clear hX
          by_cases h60 : 60 < i
          · have h60' : (60 : Int) < (i : Int) := by omega
            go_wp2_with fail
            go_meet
            exact ⟨i, Us, cs, D, tails, VA, VT, A, TT, hi61, HA.out⟩
          · have h60' : ¬ (60 : Int) < (i : Int) := by omega
            obtain ⟨k, hk⟩ : ∃ k, k = xt % 8 := ⟨_, rfl⟩
            have hk8 : k < 8 := by omega
            have hk1 : (xt : Int) % 8 = (k : Int) := by omega
            have hk2 : (xt : Int).tmod 8 = (k : Int) := by rw [Int.tmod_eq_emod_of_nonneg (by omega)]; exact hk1
            have hk3 : IntKind.u8.wrap (k : Int) = (k : Int) := IntWalk.u8_in _ (by omega)
            have hk4 : (k : Int) < 8 := by omega
            have hx0 : (0 : Int) ≤ (xt : Int) := by omega
            clear hk
            obtain ⟨oT, cT, hVT, hcT0, hcT1, _, hRT⟩ := (HA.out.rt.own k hk8).reads
            obtain ⟨nT, hnT⟩ : ∃ nT, nT = (TT k).length := ⟨_, rfl⟩
            rw [← hnT] at hVT hcT0
            have cT1 : wx.cell? ⟨ba + 1, k, none⟩ = some (.slice oT nT cT) := by rw [← hVT]; exact (cell_at HA.out.t k).trans (vals8_get _ k hk8)
            have HVT := Lib.hid hVT
            have HNT := Lib.hid hnT
            have HRT := Lib.hid hRT
            clear hVT hnT hRT
            by_cases hn0 : nT = 0
            · have hnTi : ¬ (0 : Int) < (nT : Int) := by omega
              have htl : tails k = 0 := by
                rw [HA.out.li.last k hk8]
                have : TT k = [] := List.eq_nil_of_length_eq_zero (by rw [← HNT.out]; exact hn0)
                rw [this]
                rfl
              clear hn0
              go_upto_region 19 with fail
              have HC := Lib.hid (HA.out.ps.put HK.out (T := T) (L := L) HL.out (by omega) hk8 (show tails k = 0 from htl) x hx)
              have F1 := Lib.hid HA.out.p
              have F2 := Lib.hid HA.out.u
              have HTl := Lib.hid htl
              clear htl
              go_wp2_with (first
                | (refine wpList_load_row rfl 29 (.tmp 5) rfl p rfl 29 (planC B S C T L) (0, 0) _ F1.out Try.underlying29 rfl (planC_info _ _ _ _ _) ?_)
                | (refine wpList_load_row rfl 27 (.tmp 11) rfl (ba + 1 + 1) rfl 27 (six Us) (0, 0) _ F2.out Try.underlying27 rfl (six_info _) ?_)
                | fail)
              refine HC.out.mono ?_
              clear HC F1 F2
              rintro e w6 ⟨hmod, hres⟩
              have hO := HOb.out
              unfold BKO at hO
              have g1 := (hmod.block _ (lt_of_heap HA.out.p) (by omega)).trans HA.out.p
              have g2 := (hmod.block _ (lt_of_heap HA.out.u) (by omega)).trans HA.out.u
              have g3 := (hmod.block _ (lt_of_heap HA.out.a) (by omega)).trans HA.out.a
              have g4 := (hmod.block _ (lt_of_heap HA.out.t) (by omega)).trans HA.out.t
              have g5 := (hmod.block _ (lt_of_heap HX.out) (by omega)).trans HX.out
              have g6 := HA.out.ra.mod hmod (fun g hg e => by omega)
              have g7 := HA.out.rt.mod hmod (fun g hg e => by omega)
              have g8 : Below W.heap.size W w6 := HA.out.low.trans (hmod.below HA.out.low.size fun g hg e => by omega)
              have g9 := Nat.le_trans HA.out.base_ hmod.size
              have HG := Lib.hid (And.intro g1 (And.intro g2 (And.intro g3 (And.intro g4 (And.intro g5 (And.intro g6 (And.intro g7 (And.intro g8 g9))))))))
              clear g1 g2 g3 g4 g5 g6 g7 g8 g9 hmod hO
              rcases hres with ⟨V, rfl, _, _, hps⟩ | ⟨t', U', cs', D', rfl, hps, hok⟩
              · have HPS := Lib.hid hps
                clear hps
                go_upto_region 20 with (first
                  | (refine wpList_store_row rfl 27 (.tmp 18) (.tmp 75) rfl w6.heap.size (six V) rfl rfl 27 (six fun _ => 0) (heap_alloc_new w6 _) (six_info _) rfl (six_one _) ?_)
                  | fail)
                rw [World.setRow_alloc_new]
                have hb := below_one (w := w6) (A := .cells (six V) 27)
                have HN6 : Hid (BK W p (ba + 2) ba (ba + 1) (cb + 1) cb (ba + 3) B S C T L Us cs D tails VA VT A TT (2 * (i + 1)) (i + 1) (w6.alloc (.cells (six V) 27))) := Lib.hid (by
                  obtain ⟨g1, g2, g3, g4, _, g6, g7, g8, g9⟩ := HG.out
                  have hbk : BK W p (ba + 2) ba (ba + 1) (cb + 1) cb (ba + 3) B S C T L Us cs D tails VA VT A TT (2 * i + 2) (i + 1) w6 := ⟨g1, g2, g3, g4, HPS.out, g6, g7, ⟨HA.out.li.last, fun j hj => ⟨(HA.out.li.len j hj).1, by have := (HA.out.li.len j hj).2; omega⟩, HA.out.li.chain⟩, g8, g9⟩
                  exact hbk.below hb)
                clear hb
                go_wp2_with fail
                go_roundw
                case rel => exact ⟨i + 1, _, _, _, _, _, _, _, _, by omega, by omega, by go_num, HN6.out⟩
                case measure => simp [intOf]; omega
              · have hpos : 0 ≤ t' := by have := hok.range; omega
                obtain ⟨tn, rfl⟩ := Int.eq_ofNat_of_zero_le hpos
                have HPS := Lib.hid hps
                have HOk := Lib.hid hok
                clear hps hok hpos
                go_upto_region 21 with (first
                  | (refine wpList_store_row rfl 27 (.tmp 18) (.tmp 75) rfl w6.heap.size (six U') rfl rfl 27 (six fun _ => 0) (heap_alloc_new w6 _) (six_info _) rfl (six_one _) ?_)
                  | fail)
                rw [World.setRow_alloc_new]
                obtain ⟨ub, hub⟩ : ∃ ub, ub = w6.heap.size := ⟨_, rfl⟩
                obtain ⟨w7, hw7⟩ : ∃ w7, w7 = w6.alloc (.cells (six U') 27) := ⟨_, rfl⟩
                rw [show w6.alloc (.cells (six U') 27) = w7 from hw7.symm, show w6.heap.size = ub from hub.symm]
                have hubz : ba + 3 ≤ ub := by rw [hub]; exact HG.out.2.2.2.2.2.2.2.2
                have HR0 : Hid (BR W p (ba + 2) ba (ba + 1) (cb + 1) cb (ba + 3) B S C T L Us U' cs' D' (setT tails k (tn : Int)) VA VT A TT (2 * i + 2) k xt x tn xb ub (0, 0, undef, undef) (fun _ => false) w7) := Lib.hid (by
                  obtain ⟨g1, g2, g3, g4, g5, g6, g7, g8, g9⟩ := HG.out
                  have hb : Below w6.heap.size w6 w7 := by rw [hw7]; exact below_one
                  exact ⟨(hb.block _ (lt_of_heap g5)).trans g5, by rw [hw7]; exact heap_top _ hub, (hb.block _ (lt_of_heap g1)).trans g1, (hb.block _ (lt_of_heap g2)).trans g2, (hb.block _ (lt_of_heap g3)).trans g3, (hb.block _ (lt_of_heap g4)).trans g4, HPS.out.below hb, g6.keep (fun g _ _ hc => hb.block g (lt_of_heap hc)), g7.keep (fun g _ _ hc => hb.block g (lt_of_heap hc)), (fun h => by cases h), (fun h => by cases h), (fun h => by cases h), (fun h => by cases h), (fun h => by cases h), (fun h => by cases h), low_more g8 hb, Nat.le_trans g9 hb.size⟩)
                have HUb := Lib.hid (show xb ≠ ba + 2 ∧ ub ≠ ba + 2 from ⟨by omega, by omega⟩)
                have HAN := Lib.hid (show ∀ j, j < 8 → (A j).length ≤ 1000 ∧ (TT j).length ≤ 1000 from fun j hj => by have := HA.out.li.len j hj; omega)
                have HLi := Lib.hid HA.out.li
                have HTl2 := HTl
                clear hw7 hub HG HPS k1 k2 cT1 HRT HX
                refine wp_region_by (fun (z : Nat × Nat × Value × Value) j => [.int .u8 (k : Int), .int .u8 (k : Int), .int .u8 (k : Int), .pointer (some ⟨ba, k, none⟩), VA k, .pointer (some ⟨xb, 1, none⟩), .int .u32 (x : Int), .slice (some ⟨z.1, 0, none⟩) 1 1, z.2.2.1, .int .u8 (k : Int), .pointer (some ⟨ba + 1, k, none⟩), VT k, .int .i64 (tn : Int), .slice (some ⟨z.2.1, 0, none⟩) 1 1, z.2.2.2, .agg (six U'), .pointer (some ⟨ba, k, none⟩), undef, .pointer (some ⟨ba + 1, k, none⟩), undef, undef].getD j undef)
                  (BR W p (ba + 2) ba (ba + 1) (cb + 1) cb (ba + 3) B S C T L Us U' cs' D' (setT tails k (tn : Int)) VA VT A TT (2 * i + 2) k xt x tn xb ub)
                  (by kernel_rfl) (by kernel_rfl) (fun q => by simp only [putTo, dstOf, Act.put, List.size_toArray, List.length_cons, List.length_nil, List.getElem?_toArray, Nat.reduceAdd, Option.bind_some, List.getElem?_cons_zero, List.getElem?_cons_succ, List.setIfInBounds_toArray, List.set_cons_zero, List.set_cons_succ, List.getD_cons_zero, List.getD_cons_succ]; exact rfl) (0, 0, undef, undef) ?_ ?_ ?_
                · have hR := HR0.out
                  exact ⟨hR.op, hR.un, hR.p, hR.u, hR.a, hR.t, hR.ps.mod (T := fun _ => False) (Mod.refl _ _).drew id id, hR.ra.keep (fun _ _ _ _ => rfl), hR.rt.keep (fun _ _ _ _ => rfl), (fun h => by cases h), (fun h => by cases h), (fun h => by cases h), (fun h => by cases h), (fun h => by cases h), (fun h => by cases h), hR.low.drew, hR.base_⟩
                · clear HR0 HA
                  intro y o ho z l wx hR hl he K hK
                  rcases y with _ | _ | _ | _ | _ | _ | _ | _ | _ | _ | _ | _ | _ | _ | _ | _ | _ | _ | _ | _ | _ | y
                  · obtain rfl : _ = o := Option.some.inj ho
                    go_simp
                    exact hK z wx (fun _ _ => rfl) ⟨hR.op, hR.un, hR.p, hR.u, hR.a, hR.t, hR.ps, hR.ra, hR.rt, hR.b1, hR.b2, hR.d17, hR.d19, hR.d8, hR.d14, hR.low, hR.base_⟩
                  · obtain rfl : _ = o := Option.some.inj ho
                    go_simp
                    exact hK z wx (fun _ _ => rfl) ⟨hR.op, hR.un, hR.p, hR.u, hR.a, hR.t, hR.ps, hR.ra, hR.rt, hR.b1, hR.b2, hR.d17, hR.d19, hR.d8, hR.d14, hR.low, hR.base_⟩
                  · obtain rfl : _ = o := Option.some.inj ho
                    go_simp
                    exact hK z wx (fun _ _ => rfl) ⟨hR.op, hR.un, hR.p, hR.u, hR.a, hR.t, hR.ps, hR.ra, hR.rt, hR.b1, hR.b2, hR.d17, hR.d19, hR.d8, hR.d14, hR.low, hR.base_⟩
                  · obtain rfl : _ = o := Option.some.inj ho
                    go_simp
                    exact hK z wx (fun _ _ => rfl) ⟨hR.op, hR.un, hR.p, hR.u, hR.a, hR.t, hR.ps, hR.ra, hR.rt, hR.b1, hR.b2, hR.d17, hR.d19, hR.d8, hR.d14, hR.low, hR.base_⟩
                  · obtain rfl : _ = o := Option.some.inj ho
                    have n17 : l 17 = false := by
                      cases e : l 17 with
                      | false => rfl
                      | true => have := (hR.d8 (hR.d17 e)).2; rw [hl] at this; cases this
                    have ha := hR.a
                    rw [if_neg (by rw [n17]; decide)] at ha
                    have c0 : wx.cell? ⟨ba, k, none⟩ = some (VA k) := (cell_at ha k).trans (vals8_get _ k hk8)
                    go_simp
                    exact hK z wx (fun _ _ => rfl) ⟨hR.op, hR.un, hR.p, hR.u, hR.a, hR.t, hR.ps, hR.ra, hR.rt, hR.b1, hR.b2, hR.d17, hR.d19, (fun h => ⟨(hR.d8 h).1, rfl⟩), hR.d14, hR.low, hR.base_⟩
                  · obtain rfl : _ = o := Option.some.inj ho
                    go_simp
                    exact hK z wx (fun _ _ => rfl) ⟨hR.op, hR.un, hR.p, hR.u, hR.a, hR.t, hR.ps, hR.ra, hR.rt, hR.b1, hR.b2, hR.d17, hR.d19, hR.d8, hR.d14, hR.low, hR.base_⟩
                  · obtain rfl : _ = o := Option.some.inj ho
                    have c0 : wx.cell? ⟨xb, 1, none⟩ = some (.int .u32 (x : Int)) := cell_at hR.op 1
                    go_simp
                    exact hK z wx (fun _ _ => rfl) ⟨hR.op, hR.un, hR.p, hR.u, hR.a, hR.t, hR.ps, hR.ra, hR.rt, hR.b1, hR.b2, hR.d17, hR.d19, hR.d8, hR.d14, hR.low, hR.base_⟩
                  · obtain rfl : _ = o := Option.some.inj ho
                    have n8 : l 8 = false := by
                      cases e : l 8 with
                      | false => rfl
                      | true => have := (hR.d8 e).1; rw [hl] at this; cases this
                    have hb := below_one (w := wx) (A := .cells #[.int .u32 (x : Int)] 41)
                    have hnew := heap_alloc_new wx (.cells #[.int .u32 (x : Int)] 41)
                    have HRR := Lib.hid (And.intro hR (And.intro hb (And.intro hnew (And.intro n8 hl))))
                    clear hR hb hnew n8 hl
                    go_simp
                    obtain ⟨hR, hb, hnew, n8, hl⟩ := HRR.out
                    have l7 : l 7 = false := hl
                    have hra := hR.ra.keep (w' := wx.alloc (.cells #[.int .u32 (x : Int)] 41)) (fun g _ _ hc => hb.block g (lt_of_heap hc))
                    rw [if_neg (by rw [n8]; decide), if_neg (by rw [n8]; decide)] at hra
                    have n17 : l 17 = false := by
                      cases e : l 17 with
                      | false => rfl
                      | true => have := hR.d17 e; rw [n8] at this; cases this
                    refine hK (wx.heap.size, z.2) _ (fun j hj => ?_) ⟨(hb.block _ (lt_of_heap hR.op)).trans hR.op, (hb.block _ (lt_of_heap hR.un)).trans hR.un, (hb.block _ (lt_of_heap hR.p)).trans hR.p, (hb.block _ (lt_of_heap hR.u)).trans hR.u, (hb.block _ (lt_of_heap hR.a)).trans hR.a, (hb.block _ (lt_of_heap hR.t)).trans hR.t, hR.ps.below hb, hR.ra.keep (fun g _ _ hc => hb.block g (lt_of_heap hc)), hR.rt.keep (fun g _ _ hc => hb.block g (lt_of_heap hc)), (fun _ _ => hnew), (fun h h8 => (hb.block _ (lt_of_heap (hR.b2 h h8))).trans (hR.b2 h h8)), hR.d17, hR.d19, (fun h => ⟨rfl, (hR.d8 h).2⟩), hR.d14, low_more hR.low hb, Nat.le_trans hR.base_ hb.size⟩
                    · rcases j with _ | _ | _ | _ | _ | _ | _ | _ | _ | _ | _ | _ | _ | _ | _ | _ | _ | _ | _ | _ | _ | j
                      all_goals first | rfl | (rw [hl] at hj; cases hj)
                  · obtain rfl : _ = o := Option.some.inj ho
                    have lb := he ⟨7, .data⟩ (by simp) rfl
                    have l4 := he ⟨4, .data⟩ (by simp) rfl
                    have n8 : l 8 = false := hl
                    have hra := hR.ra
                    rw [if_neg (by rw [n8]; decide), if_neg (by rw [n8]; decide)] at hra
                    have hown := hra.own k hk8
                    have hbk := hR.b1 lb n8
                    obtain ⟨i0, hi0, hz0, hz1, hz2⟩ := info_parts u32_info
                    have hAn := (HAN.out k hk8).1
                    refine wp_append_lies wx (.tmp 83) (.tmp 86) 37 rfl (ba + 3) 41 i0 _ 1 4 Try.underlying37 hi0 hz0 hz1 hz2 rfl (by decide) (VA k) (A k).length (numC .u32 (A k)) rfl hown ⟨z.1, 0, none⟩ 1 1 [.int .u32 (x : Int)] rfl rfl (news_one hbk) (by simp [Value.oneCell']) (by decide) (by unfold maxLen; omega) (by omega) hR.base_ _ rfl ?_
                    intro g c' w' ho2 hg2 hl2 _
                    have hmz := grown_mod hown hg2
                    have hkeep : ∀ (b : Nat) (c : Array Value) (t : TypeId), wx.heap[b]? = some (.cells c t (0, 0)) → t ≠ 41 → w'.heap[b]? = some (.cells c t (0, 0)) := fun b c t h1 h2 => grown_keep hown hg2 h1 h2
                    have hlow : Below W.heap.size W w' := hR.low.trans (hmz.below hR.low.size fun b hb hs => by have := HOb.out; unfold BKO at this; omega)
                    have n17 : l 17 = false := by
                      cases e : l 17 with
                      | false => rfl
                      | true => have := hR.d17 e; rw [n8] at this; cases this
                    have hgrow := hra.grow hk8 (own_snoc ho2 rfl) hg2 hl2
                    refine hK (z.1, z.2.1, .slice (some ⟨g, 0, none⟩) ((A k).length + 1) c', z.2.2.2) w' (fun j hj => ?_) ⟨hkeep _ _ _ hR.op (by decide), hkeep _ _ _ hR.un (by decide), hkeep _ _ _ hR.p (by decide), hkeep _ _ _ hR.u (by decide), ?_, hkeep _ _ _ hR.t (by decide), hR.ps.mod hmz (fun h => by have := HOb.out; unfold BKO at this; omega) (fun h => by have := HOb.out; unfold BKO at this; omega), hgrow, hR.rt.other hown hg2 (by decide), (fun _ h => by cases h), (fun h h2 => hkeep _ _ _ (hR.b2 h h2) (by decide)), (fun _ => rfl), hR.d19, (fun _ => ⟨lb, l4⟩), hR.d14, hlow, Nat.le_trans hR.base_ hg2.size⟩
                    · rcases j with _ | _ | _ | _ | _ | _ | _ | _ | _ | _ | _ | _ | _ | _ | _ | _ | _ | _ | _ | _ | _ | j
                      all_goals first | rfl | (rw [hl] at hj; cases hj)
                    · have ha := hkeep _ _ _ hR.a (by decide)
                      rw [if_neg (by rw [n17]; decide)] at ha
                      rw [if_neg (by show ¬ ((17 == 8 || l 17) = true); rw [n17]; decide)]
                      exact ha
                  · obtain rfl : _ = o := Option.some.inj ho
                    go_simp
                    exact hK z wx (fun _ _ => rfl) ⟨hR.op, hR.un, hR.p, hR.u, hR.a, hR.t, hR.ps, hR.ra, hR.rt, hR.b1, hR.b2, hR.d17, hR.d19, hR.d8, hR.d14, hR.low, hR.base_⟩
                  · obtain rfl : _ = o := Option.some.inj ho
                    go_simp
                    exact hK z wx (fun _ _ => rfl) ⟨hR.op, hR.un, hR.p, hR.u, hR.a, hR.t, hR.ps, hR.ra, hR.rt, hR.b1, hR.b2, hR.d17, hR.d19, hR.d8, hR.d14, hR.low, hR.base_⟩
                  · obtain rfl : _ = o := Option.some.inj ho
                    have n19 : l 19 = false := by
                      cases e : l 19 with
                      | false => rfl
                      | true => have := (hR.d14 (hR.d19 e)).2; rw [hl] at this; cases this
                    have ht := hR.t
                    rw [if_neg (by rw [n19]; decide)] at ht
                    have c0 : wx.cell? ⟨ba + 1, k, none⟩ = some (VT k) := (cell_at ht k).trans (vals8_get _ k hk8)
                    go_simp
                    exact hK z wx (fun _ _ => rfl) ⟨hR.op, hR.un, hR.p, hR.u, hR.a, hR.t, hR.ps, hR.ra, hR.rt, hR.b1, hR.b2, hR.d17, hR.d19, hR.d8, (fun h => ⟨(hR.d14 h).1, rfl⟩), hR.low, hR.base_⟩
                  · obtain rfl : _ = o := Option.some.inj ho
                    go_simp
                    exact hK z wx (fun _ _ => rfl) ⟨hR.op, hR.un, hR.p, hR.u, hR.a, hR.t, hR.ps, hR.ra, hR.rt, hR.b1, hR.b2, hR.d17, hR.d19, hR.d8, hR.d14, hR.low, hR.base_⟩
                  · obtain rfl : _ = o := Option.some.inj ho
                    have n14 : l 14 = false := by
                      cases e : l 14 with
                      | false => rfl
                      | true => have := (hR.d14 e).1; rw [hl] at this; cases this
                    have hb := below_one (w := wx) (A := .cells #[.int .i64 (tn : Int)] 3)
                    have hnew := heap_alloc_new wx (.cells #[.int .i64 (tn : Int)] 3)
                    have HRR := Lib.hid (And.intro hR (And.intro hb (And.intro hnew (And.intro n14 hl))))
                    clear hR hb hnew n14 hl
                    go_simp
                    obtain ⟨hR, hb, hnew, n14, hl⟩ := HRR.out
                    refine hK (z.1, wx.heap.size, z.2.2) _ (fun j hj => ?_) ⟨(hb.block _ (lt_of_heap hR.op)).trans hR.op, (hb.block _ (lt_of_heap hR.un)).trans hR.un, (hb.block _ (lt_of_heap hR.p)).trans hR.p, (hb.block _ (lt_of_heap hR.u)).trans hR.u, (hb.block _ (lt_of_heap hR.a)).trans hR.a, (hb.block _ (lt_of_heap hR.t)).trans hR.t, hR.ps.below hb, hR.ra.keep (fun g _ _ hc => hb.block g (lt_of_heap hc)), hR.rt.keep (fun g _ _ hc => hb.block g (lt_of_heap hc)), (fun h h8 => (hb.block _ (lt_of_heap (hR.b1 h h8))).trans (hR.b1 h h8)), (fun _ _ => hnew), hR.d17, hR.d19, hR.d8, (fun h => ⟨rfl, (hR.d14 h).2⟩), low_more hR.low hb, Nat.le_trans hR.base_ hb.size⟩
                    · rcases j with _ | _ | _ | _ | _ | _ | _ | _ | _ | _ | _ | _ | _ | _ | _ | _ | _ | _ | _ | _ | _ | j
                      all_goals first | rfl | (rw [hl] at hj; cases hj)
                  · obtain rfl : _ = o := Option.some.inj ho
                    have lb := he ⟨13, .data⟩ (by simp) rfl
                    have l4 := he ⟨11, .data⟩ (by simp) rfl
                    have n8 : l 14 = false := hl
                    have hra := hR.rt
                    rw [if_neg (by rw [n8]; decide), if_neg (by rw [n8]; decide)] at hra
                    have hown := hra.own k hk8
                    have hbk := hR.b2 lb n8
                    obtain ⟨i0, hi0, hz0, hz1, hz2⟩ := info_parts int_info
                    have hAn := (HAN.out k hk8).2
                    refine wp_append_lies wx (.tmp 90) (.tmp 92) 39 rfl (ba + 3) 3 i0 _ 1 8 Try.underlying39 hi0 hz0 hz1 hz2 rfl (by decide) (VT k) (TT k).length (numC .i64 (TT k)) rfl hown ⟨z.2.1, 0, none⟩ 1 1 [.int .i64 (tn : Int)] rfl rfl (news_one hbk) (by simp [Value.oneCell']) (by decide) (by unfold maxLen; omega) (by omega) hR.base_ _ rfl ?_
                    intro g c' w' ho2 hg2 hl2 _
                    have hmz := grown_mod hown hg2
                    have hkeep : ∀ (b : Nat) (c : Array Value) (t : TypeId), wx.heap[b]? = some (.cells c t (0, 0)) → t ≠ 3 → w'.heap[b]? = some (.cells c t (0, 0)) := fun b c t h1 h2 => grown_keep hown hg2 h1 h2
                    have hlow : Below W.heap.size W w' := hR.low.trans (hmz.below hR.low.size fun b hb hs => by have := HOb.out; unfold BKO at this; omega)
                    have n19 : l 19 = false := by
                      cases e : l 19 with
                      | false => rfl
                      | true => have := hR.d19 e; rw [n8] at this; cases this
                    have hgrow := hra.grow hk8 (own_snoc ho2 rfl) hg2 hl2
                    refine hK (z.1, z.2.1, z.2.2.1, .slice (some ⟨g, 0, none⟩) ((TT k).length + 1) c') w' (fun j hj => ?_) ⟨hkeep _ _ _ hR.op (by decide), hkeep _ _ _ hR.un (by decide), hkeep _ _ _ hR.p (by decide), hkeep _ _ _ hR.u (by decide), hkeep _ _ _ hR.a (by decide), ?_, hR.ps.mod hmz (fun h => by have := HOb.out; unfold BKO at this; omega) (fun h => by have := HOb.out; unfold BKO at this; omega), hR.ra.other hown hg2 (by decide), hgrow, (fun h h2 => hkeep _ _ _ (hR.b1 h h2) (by decide)), (fun _ h => by cases h), hR.d17, (fun _ => rfl), hR.d8, (fun _ => ⟨lb, l4⟩), hlow, Nat.le_trans hR.base_ hg2.size⟩
                    · rcases j with _ | _ | _ | _ | _ | _ | _ | _ | _ | _ | _ | _ | _ | _ | _ | _ | _ | _ | _ | _ | _ | j
                      all_goals first | rfl | (rw [hl] at hj; cases hj)
                    · have ht := hkeep _ _ _ hR.t (by decide)
                      rw [if_neg (by rw [n19]; decide)] at ht
                      rw [if_neg (by show ¬ ((19 == 14 || l 19) = true); rw [n19]; decide)]
                      exact ht
                  · obtain rfl : _ = o := Option.some.inj ho
                    refine wp_load_row 27 (.tmp 18) rfl ub rfl 27 (six U') (0, 0) _ hR.un Try.underlying27 rfl (six_info _) ?_
                    exact hK z wx (fun _ _ => rfl) ⟨hR.op, hR.un, hR.p, hR.u, hR.a, hR.t, hR.ps, hR.ra, hR.rt, hR.b1, hR.b2, hR.d17, hR.d19, hR.d8, hR.d14, hR.low, hR.base_⟩
                  · obtain rfl : _ = o := Option.some.inj ho
                    go_simp
                    exact hK z wx (fun _ _ => rfl) ⟨hR.op, hR.un, hR.p, hR.u, hR.a, hR.t, hR.ps, hR.ra, hR.rt, hR.b1, hR.b2, hR.d17, hR.d19, hR.d8, hR.d14, hR.low, hR.base_⟩
                  · obtain rfl : _ = o := Option.some.inj ho
                    have l8 := he ⟨8, .data⟩ (by simp) rfl
                    have n17 : l 17 = false := hl
                    have ha := hR.a
                    rw [if_neg (by rw [n17]; decide)] at ha
                    have c0 : wx.cell? ⟨ba, k, none⟩ = some (VA k) := (cell_at ha k).trans (vals8_get _ k hk8)
                    have f0 : wx.frozen? ⟨ba, k, none⟩ = false := free_at ha k
                    have hsl : ∃ oz nz cz, z.2.2.1 = .slice oz nz cz := by
                      have hx := hR.ra.own k hk8
                      rw [if_pos l8, if_pos l8] at hx
                      unfold setV at hx
                      rw [if_pos rfl] at hx
                      obtain ⟨oz, cz, e, _⟩ := hx.reads
                      exact ⟨oz, _, cz, e⟩
                    obtain ⟨oz, nz, cz, hzz⟩ := hsl
                    have HRR := Lib.hid (And.intro hR (And.intro ha (And.intro l8 n17)))
                    clear hR ha l8 n17 hl
                    have HZZ := Lib.hid hzz
                    rw [hzz]
                    clear hzz
                    go_simp
                    obtain ⟨hR, ha, l8, n17⟩ := HRR.out
                    rw [← HZZ.out]
                    have hs : ∀ (b : Nat) (c : Array Value) (t : TypeId), wx.heap[b]? = some (.cells c t (0, 0)) → t ≠ 38 → (wx.setCell ⟨ba, k, none⟩ z.2.2.1).heap[b]? = some (.cells c t (0, 0)) := fun b c t h1 h2 => by
                      refine (Below.heap_setCell _ _ _ _ ?_).trans h1
                      rintro rfl
                      rw [ha] at h1
                      injection h1 with h1
                      injection h1 with _ h3
                      exact h2 h3.symm
                    have hmz : Mod (fun b => b = ba) wx (wx.setCell ⟨ba, k, none⟩ z.2.2.1) := Mod.setCell (S := fun b => b = ba) (Mod.refl _ _) (.inr rfl) _
                    refine hK z _ (fun _ _ => rfl) ⟨(hs _ _ _ hR.op (by decide)), (hs _ _ _ hR.un (by decide)), (hs _ _ _ hR.p (by decide)), (hs _ _ _ hR.u (by decide)), ?_, (hs _ _ _ hR.t (by decide)), (hR.ps.mod hmz (fun h => by have := HOb.out; unfold BKO at this; omega) (fun h => by have := HOb.out; unfold BKO at this; omega)), (hR.ra.mod hmz fun g hg e => by have := HOb.out; unfold BKO at this; omega), (hR.rt.mod hmz fun g hg e => by have := HOb.out; unfold BKO at this; omega), (fun h h2 => hs _ _ _ (hR.b1 h h2) (by decide)), (fun h h2 => hs _ _ _ (hR.b2 h h2) (by decide)), (fun _ => l8), hR.d19, hR.d8, hR.d14, (hR.low.setCell (by have := HOb.out; unfold BKO at this; show _ ≤ ba; omega) _), (by simpa using hR.base_)⟩
                    show (wx.setCell ⟨ba, k, none⟩ z.2.2.1).heap[ba]? = some (.cells (vals8 (setV VA k z.2.2.1)) 38 (0, 0))
                    rw [heap_setCell_same _ _ _ _ _ _ ha, vals8_set _ _ _ hk8]
                  · obtain rfl : _ = o := Option.some.inj ho
                    go_simp
                    exact hK z wx (fun _ _ => rfl) ⟨hR.op, hR.un, hR.p, hR.u, hR.a, hR.t, hR.ps, hR.ra, hR.rt, hR.b1, hR.b2, hR.d17, hR.d19, hR.d8, hR.d14, hR.low, hR.base_⟩
                  · obtain rfl : _ = o := Option.some.inj ho
                    have l8 := he ⟨14, .data⟩ (by simp) rfl
                    have n17 : l 19 = false := hl
                    have ha := hR.t
                    rw [if_neg (by rw [n17]; decide)] at ha
                    have c0 : wx.cell? ⟨(ba + 1), k, none⟩ = some (VT k) := (cell_at ha k).trans (vals8_get _ k hk8)
                    have f0 : wx.frozen? ⟨(ba + 1), k, none⟩ = false := free_at ha k
                    have hsl : ∃ oz nz cz, z.2.2.2 = .slice oz nz cz := by
                      have hx := hR.rt.own k hk8
                      rw [if_pos l8, if_pos l8] at hx
                      unfold setV at hx
                      rw [if_pos rfl] at hx
                      obtain ⟨oz, cz, e, _⟩ := hx.reads
                      exact ⟨oz, _, cz, e⟩
                    obtain ⟨oz, nz, cz, hzz⟩ := hsl
                    have HRR := Lib.hid (And.intro hR (And.intro ha (And.intro l8 n17)))
                    clear hR ha l8 n17 hl
                    have HZZ := Lib.hid hzz
                    rw [hzz]
                    clear hzz
                    go_simp
                    obtain ⟨hR, ha, l8, n17⟩ := HRR.out
                    rw [← HZZ.out]
                    have hs : ∀ (b : Nat) (c : Array Value) (t : TypeId), wx.heap[b]? = some (.cells c t (0, 0)) → t ≠ 40 → (wx.setCell ⟨(ba + 1), k, none⟩ z.2.2.2).heap[b]? = some (.cells c t (0, 0)) := fun b c t h1 h2 => by
                      refine (Below.heap_setCell _ _ _ _ ?_).trans h1
                      rintro rfl
                      rw [ha] at h1
                      injection h1 with h1
                      injection h1 with _ h3
                      exact h2 h3.symm
                    have hmz : Mod (fun b => b = (ba + 1)) wx (wx.setCell ⟨(ba + 1), k, none⟩ z.2.2.2) := Mod.setCell (S := fun b => b = (ba + 1)) (Mod.refl _ _) (.inr rfl) _
                    refine hK z _ (fun _ _ => rfl) ⟨(hs _ _ _ hR.op (by decide)), (hs _ _ _ hR.un (by decide)), (hs _ _ _ hR.p (by decide)), (hs _ _ _ hR.u (by decide)), (hs _ _ _ hR.a (by decide)), ?_, (hR.ps.mod hmz (fun h => by have := HOb.out; unfold BKO at this; omega) (fun h => by have := HOb.out; unfold BKO at this; omega)), (hR.ra.mod hmz fun g hg e => by have := HOb.out; unfold BKO at this; omega), (hR.rt.mod hmz fun g hg e => by have := HOb.out; unfold BKO at this; omega), (fun h h2 => hs _ _ _ (hR.b1 h h2) (by decide)), (fun h h2 => hs _ _ _ (hR.b2 h h2) (by decide)), hR.d17, (fun _ => l8), hR.d8, hR.d14, (hR.low.setCell (by have := HOb.out; unfold BKO at this; show _ ≤ (ba + 1); omega) _), (by simpa using hR.base_)⟩
                    show (wx.setCell ⟨(ba + 1), k, none⟩ z.2.2.2).heap[(ba + 1)]? = some (.cells (vals8 (setV VT k z.2.2.2)) 40 (0, 0))
                    rw [heap_setCell_same _ _ _ _ _ _ ha, vals8_set _ _ _ hk8]
                  · obtain rfl : _ = o := Option.some.inj ho
                    refine wp_store_row 27 (.tmp 11) (.tmp 94) rfl (ba + 2) (six U') rfl rfl 27 _ hR.u (six_info _) rfl (six_one _) ?_
                    have hmz : Mod (fun b => b = ba + 2) wx (wx.setRow (ba + 2) (six U')) := Mod.setRow (S := fun b => b = ba + 2) (Mod.refl _ _) (.inr rfl) _
                    exact hK z _ (fun _ _ => rfl) ⟨((setRow_other _ _ _ _ HUb.out.1).trans hR.op), ((setRow_other _ _ _ _ HUb.out.2).trans hR.un), ((setRow_other _ _ _ _ (HNe.out.1)).trans hR.p), (setRow_heap _ _ _ _ _ _ hR.u), ((setRow_other _ _ _ _ HNe.out.2.1).trans hR.a), ((setRow_other _ _ _ _ HNe.out.2.2).trans hR.t), (hR.ps.mod hmz HNm.out.1 HNm.out.2), (hR.ra.mod hmz fun g hg e => by have := HOb.out; unfold BKO at this; omega), (hR.rt.mod hmz fun g hg e => by have := HOb.out; unfold BKO at this; omega), (fun h h2 => (hmz.block _ (lt_of_heap (hR.b1 h h2)) (fun e => by have h3 := hR.b1 h h2; rw [e] at h3; have h4 := h3.symm.trans hR.u; injection h4 with h4; injection h4 with _ h5; exact absurd h5 (by decide))).trans (hR.b1 h h2)), (fun h h2 => (hmz.block _ (lt_of_heap (hR.b2 h h2)) (fun e => by have h3 := hR.b2 h h2; rw [e] at h3; have h4 := h3.symm.trans hR.u; injection h4 with h4; injection h4 with _ h5; exact absurd h5 (by decide))).trans (hR.b2 h h2)), hR.d17, hR.d19, hR.d8, hR.d14, (below_setRow hR.low (by have := HOb.out; unfold BKO at this; omega) _), (by simpa using hR.base_)⟩
                  · simp at ho
                clear HR0
                intro z l w8 hl hR
                have HN8 : Hid (BK W p (ba + 2) ba (ba + 1) (cb + 1) cb (ba + 3) B S C T L U' cs' D' (setT tails k (tn : Int)) (setV VA k z.2.2.1) (setV VT k z.2.2.2) (setL A k (A k ++ [x])) (setL TT k (TT k ++ [tn])) (2 * (i + 1)) (i + 1) w8) := Lib.hid (by
                  have q1 := hR.u
                  have q2 := hR.a
                  have q3 := hR.t
                  have q4 := hR.ra
                  have q5 := hR.rt
                  rw [if_pos (hl 20 (by decide))] at q1
                  rw [if_pos (hl 17 (by decide))] at q2
                  rw [if_pos (hl 19 (by decide))] at q3
                  rw [if_pos (hl 8 (by decide)), if_pos (hl 8 (by decide))] at q4
                  rw [if_pos (hl 14 (by decide)), if_pos (hl 14 (by decide))] at q5
                  have hli := HLi.out.add hk8 (by rw [HTl2.out]; exact HOk.out)
                  rw [Int.toNat_natCast] at hli
                  exact ⟨hR.p, q1, q2, q3, hR.ps, q4, q5, hli, hR.low, hR.base_⟩)
                clear hR hl
                go_wp2_with fail
                go_roundw
                case rel => exact ⟨i + 1, _, _, _, _, _, _, _, _, by omega, by omega, by go_num, HN8.out⟩
                case measure => simp [intOf]; omega
            · have hnTi : (0 : Int) < (nT : Int) := by omega
              obtain ⟨lt, hlt2⟩ : ∃ lt, lt = lastN (TT k) := ⟨_, rfl⟩
              obtain ⟨n9, hn9⟩ : ∃ n9, n9 = nT - 1 := ⟨_, rfl⟩
              have hget : (TT k)[n9]? = some lt := by
                rw [hlt2]
                unfold lastN
                rw [List.getLastD_eq_getLast?, List.getLast?_eq_getElem?, ← HNT.out, ← hn9]
                rw [List.getElem?_eq_getElem (by have := HNT.out; omega)]
                rfl
              obtain ⟨g9, o9, rfl, c9⟩ := HRT.out n9 lt hget
              have u1 : (nT : Int) - 1 = (n9 : Int) := by omega
              have u2 : IntKind.i64.wrap (n9 : Int) = (n9 : Int) := IntWalk.i64_in _ (by have := hcT1; unfold maxLen at this; omega)
              have u3 : (n9 : Int) < (nT : Int) := by omega
              obtain ⟨tl, htl⟩ : ∃ tl : Int, tl = (lt : Int) := ⟨_, rfl⟩
              have htl : tails k = (lt : Int) := by rw [HA.out.li.last k hk8, hlt2]
              obtain ⟨tl, htl3⟩ : ∃ tl : Int, (lt : Int) = tl := ⟨_, rfl⟩
              rw [htl3] at htl c9
              clear hn0 hlt2 hn9 hget htl3
              go_upto_region 19 with fail
              clear c9 u1 u2 u3
              have HC := Lib.hid (HA.out.ps.put HK.out (T := T) (L := L) HL.out (by omega) hk8 (show tails k = tl from htl) x hx)
              have F1 := Lib.hid HA.out.p
              have F2 := Lib.hid HA.out.u
              have HTl := Lib.hid htl
              clear htl
              go_wp2_with (first
                | (refine wpList_load_row rfl 29 (.tmp 5) rfl p rfl 29 (planC B S C T L) (0, 0) _ F1.out Try.underlying29 rfl (planC_info _ _ _ _ _) ?_)
                | (refine wpList_load_row rfl 27 (.tmp 11) rfl (ba + 1 + 1) rfl 27 (six Us) (0, 0) _ F2.out Try.underlying27 rfl (six_info _) ?_)
                | fail)
              refine HC.out.mono ?_
              clear HC F1 F2
              rintro e w6 ⟨hmod, hres⟩
              have hO := HOb.out
              unfold BKO at hO
              have g1 := (hmod.block _ (lt_of_heap HA.out.p) (by omega)).trans HA.out.p
              have g2 := (hmod.block _ (lt_of_heap HA.out.u) (by omega)).trans HA.out.u
              have g3 := (hmod.block _ (lt_of_heap HA.out.a) (by omega)).trans HA.out.a
              have g4 := (hmod.block _ (lt_of_heap HA.out.t) (by omega)).trans HA.out.t
              have g5 := (hmod.block _ (lt_of_heap HX.out) (by omega)).trans HX.out
              have g6 := HA.out.ra.mod hmod (fun g hg e => by omega)
              have g7 := HA.out.rt.mod hmod (fun g hg e => by omega)
              have g8 : Below W.heap.size W w6 := HA.out.low.trans (hmod.below HA.out.low.size fun g hg e => by omega)
              have g9 := Nat.le_trans HA.out.base_ hmod.size
              have HG := Lib.hid (And.intro g1 (And.intro g2 (And.intro g3 (And.intro g4 (And.intro g5 (And.intro g6 (And.intro g7 (And.intro g8 g9))))))))
              clear g1 g2 g3 g4 g5 g6 g7 g8 g9 hmod hO
              rcases hres with ⟨V, rfl, _, _, hps⟩ | ⟨t', U', cs', D', rfl, hps, hok⟩
              · have HPS := Lib.hid hps
                clear hps
                go_upto_region 20 with (first
                  | (refine wpList_store_row rfl 27 (.tmp 18) (.tmp 75) rfl w6.heap.size (six V) rfl rfl 27 (six fun _ => 0) (heap_alloc_new w6 _) (six_info _) rfl (six_one _) ?_)
                  | fail)
                rw [World.setRow_alloc_new]
                have hb := below_one (w := w6) (A := .cells (six V) 27)
                have HN6 : Hid (BK W p (ba + 2) ba (ba + 1) (cb + 1) cb (ba + 3) B S C T L Us cs D tails VA VT A TT (2 * (i + 1)) (i + 1) (w6.alloc (.cells (six V) 27))) := Lib.hid (by
                  obtain ⟨g1, g2, g3, g4, _, g6, g7, g8, g9⟩ := HG.out
                  have hbk : BK W p (ba + 2) ba (ba + 1) (cb + 1) cb (ba + 3) B S C T L Us cs D tails VA VT A TT (2 * i + 2) (i + 1) w6 := ⟨g1, g2, g3, g4, HPS.out, g6, g7, ⟨HA.out.li.last, fun j hj => ⟨(HA.out.li.len j hj).1, by have := (HA.out.li.len j hj).2; omega⟩, HA.out.li.chain⟩, g8, g9⟩
                  exact hbk.below hb)
                clear hb
                go_wp2_with fail
                go_roundw
                case rel => exact ⟨i + 1, _, _, _, _, _, _, _, _, by omega, by omega, by go_num, HN6.out⟩
                case measure => simp [intOf]; omega
              · have hpos : 0 ≤ t' := by have := hok.range; omega
                obtain ⟨tn, rfl⟩ := Int.eq_ofNat_of_zero_le hpos
                have HPS := Lib.hid hps
                have HOk := Lib.hid hok
                clear hps hok hpos
                go_upto_region 21 with (first
                  | (refine wpList_store_row rfl 27 (.tmp 18) (.tmp 75) rfl w6.heap.size (six U') rfl rfl 27 (six fun _ => 0) (heap_alloc_new w6 _) (six_info _) rfl (six_one _) ?_)
                  | fail)
                rw [World.setRow_alloc_new]
                obtain ⟨ub, hub⟩ : ∃ ub, ub = w6.heap.size := ⟨_, rfl⟩
                obtain ⟨w7, hw7⟩ : ∃ w7, w7 = w6.alloc (.cells (six U') 27) := ⟨_, rfl⟩
                rw [show w6.alloc (.cells (six U') 27) = w7 from hw7.symm, show w6.heap.size = ub from hub.symm]
                have hubz : ba + 3 ≤ ub := by rw [hub]; exact HG.out.2.2.2.2.2.2.2.2
                have HR0 : Hid (BR W p (ba + 2) ba (ba + 1) (cb + 1) cb (ba + 3) B S C T L Us U' cs' D' (setT tails k (tn : Int)) VA VT A TT (2 * i + 2) k xt x tn xb ub (0, 0, undef, undef) (fun _ => false) w7) := Lib.hid (by
                  obtain ⟨g1, g2, g3, g4, g5, g6, g7, g8, g9⟩ := HG.out
                  have hb : Below w6.heap.size w6 w7 := by rw [hw7]; exact below_one
                  exact ⟨(hb.block _ (lt_of_heap g5)).trans g5, by rw [hw7]; exact heap_top _ hub, (hb.block _ (lt_of_heap g1)).trans g1, (hb.block _ (lt_of_heap g2)).trans g2, (hb.block _ (lt_of_heap g3)).trans g3, (hb.block _ (lt_of_heap g4)).trans g4, HPS.out.below hb, g6.keep (fun g _ _ hc => hb.block g (lt_of_heap hc)), g7.keep (fun g _ _ hc => hb.block g (lt_of_heap hc)), (fun h => by cases h), (fun h => by cases h), (fun h => by cases h), (fun h => by cases h), (fun h => by cases h), (fun h => by cases h), low_more g8 hb, Nat.le_trans g9 hb.size⟩)
                have HUb := Lib.hid (show xb ≠ ba + 2 ∧ ub ≠ ba + 2 from ⟨by omega, by omega⟩)
                have HAN := Lib.hid (show ∀ j, j < 8 → (A j).length ≤ 1000 ∧ (TT j).length ≤ 1000 from fun j hj => by have := HA.out.li.len j hj; omega)
                have HLi := Lib.hid HA.out.li
                have HTl2 := HTl
                clear hw7 hub HG HPS k1 k2 cT1 HRT HX
                refine wp_region_by (fun (z : Nat × Nat × Value × Value) j => [.int .u8 (k : Int), .int .u8 (k : Int), .int .u8 (k : Int), .pointer (some ⟨ba, k, none⟩), VA k, .pointer (some ⟨xb, 1, none⟩), .int .u32 (x : Int), .slice (some ⟨z.1, 0, none⟩) 1 1, z.2.2.1, .int .u8 (k : Int), .pointer (some ⟨ba + 1, k, none⟩), VT k, .int .i64 (tn : Int), .slice (some ⟨z.2.1, 0, none⟩) 1 1, z.2.2.2, .agg (six U'), .pointer (some ⟨ba, k, none⟩), undef, .pointer (some ⟨ba + 1, k, none⟩), undef, undef].getD j undef)
                  (BR W p (ba + 2) ba (ba + 1) (cb + 1) cb (ba + 3) B S C T L Us U' cs' D' (setT tails k (tn : Int)) VA VT A TT (2 * i + 2) k xt x tn xb ub)
                  (by kernel_rfl) (by kernel_rfl) (fun q => by simp only [putTo, dstOf, Act.put, List.size_toArray, List.length_cons, List.length_nil, List.getElem?_toArray, Nat.reduceAdd, Option.bind_some, List.getElem?_cons_zero, List.getElem?_cons_succ, List.setIfInBounds_toArray, List.set_cons_zero, List.set_cons_succ, List.getD_cons_zero, List.getD_cons_succ]; exact rfl) (0, 0, undef, undef) ?_ ?_ ?_
                · have hR := HR0.out
                  exact ⟨hR.op, hR.un, hR.p, hR.u, hR.a, hR.t, hR.ps.mod (T := fun _ => False) (Mod.refl _ _).drew id id, hR.ra.keep (fun _ _ _ _ => rfl), hR.rt.keep (fun _ _ _ _ => rfl), (fun h => by cases h), (fun h => by cases h), (fun h => by cases h), (fun h => by cases h), (fun h => by cases h), (fun h => by cases h), hR.low.drew, hR.base_⟩
                · clear HR0 HA
                  intro y o ho z l wx hR hl he K hK
                  rcases y with _ | _ | _ | _ | _ | _ | _ | _ | _ | _ | _ | _ | _ | _ | _ | _ | _ | _ | _ | _ | _ | y
                  · obtain rfl : _ = o := Option.some.inj ho
                    go_simp
                    exact hK z wx (fun _ _ => rfl) ⟨hR.op, hR.un, hR.p, hR.u, hR.a, hR.t, hR.ps, hR.ra, hR.rt, hR.b1, hR.b2, hR.d17, hR.d19, hR.d8, hR.d14, hR.low, hR.base_⟩
                  · obtain rfl : _ = o := Option.some.inj ho
                    go_simp
                    exact hK z wx (fun _ _ => rfl) ⟨hR.op, hR.un, hR.p, hR.u, hR.a, hR.t, hR.ps, hR.ra, hR.rt, hR.b1, hR.b2, hR.d17, hR.d19, hR.d8, hR.d14, hR.low, hR.base_⟩
                  · obtain rfl : _ = o := Option.some.inj ho
                    go_simp
                    exact hK z wx (fun _ _ => rfl) ⟨hR.op, hR.un, hR.p, hR.u, hR.a, hR.t, hR.ps, hR.ra, hR.rt, hR.b1, hR.b2, hR.d17, hR.d19, hR.d8, hR.d14, hR.low, hR.base_⟩
                  · obtain rfl : _ = o := Option.some.inj ho
                    go_simp
                    exact hK z wx (fun _ _ => rfl) ⟨hR.op, hR.un, hR.p, hR.u, hR.a, hR.t, hR.ps, hR.ra, hR.rt, hR.b1, hR.b2, hR.d17, hR.d19, hR.d8, hR.d14, hR.low, hR.base_⟩
                  · obtain rfl : _ = o := Option.some.inj ho
                    have n17 : l 17 = false := by
                      cases e : l 17 with
                      | false => rfl
                      | true => have := (hR.d8 (hR.d17 e)).2; rw [hl] at this; cases this
                    have ha := hR.a
                    rw [if_neg (by rw [n17]; decide)] at ha
                    have c0 : wx.cell? ⟨ba, k, none⟩ = some (VA k) := (cell_at ha k).trans (vals8_get _ k hk8)
                    go_simp
                    exact hK z wx (fun _ _ => rfl) ⟨hR.op, hR.un, hR.p, hR.u, hR.a, hR.t, hR.ps, hR.ra, hR.rt, hR.b1, hR.b2, hR.d17, hR.d19, (fun h => ⟨(hR.d8 h).1, rfl⟩), hR.d14, hR.low, hR.base_⟩
                  · obtain rfl : _ = o := Option.some.inj ho
                    go_simp
                    exact hK z wx (fun _ _ => rfl) ⟨hR.op, hR.un, hR.p, hR.u, hR.a, hR.t, hR.ps, hR.ra, hR.rt, hR.b1, hR.b2, hR.d17, hR.d19, hR.d8, hR.d14, hR.low, hR.base_⟩
                  · obtain rfl : _ = o := Option.some.inj ho
                    have c0 : wx.cell? ⟨xb, 1, none⟩ = some (.int .u32 (x : Int)) := cell_at hR.op 1
                    go_simp
                    exact hK z wx (fun _ _ => rfl) ⟨hR.op, hR.un, hR.p, hR.u, hR.a, hR.t, hR.ps, hR.ra, hR.rt, hR.b1, hR.b2, hR.d17, hR.d19, hR.d8, hR.d14, hR.low, hR.base_⟩
                  · obtain rfl : _ = o := Option.some.inj ho
                    have n8 : l 8 = false := by
                      cases e : l 8 with
                      | false => rfl
                      | true => have := (hR.d8 e).1; rw [hl] at this; cases this
                    have hb := below_one (w := wx) (A := .cells #[.int .u32 (x : Int)] 41)
                    have hnew := heap_alloc_new wx (.cells #[.int .u32 (x : Int)] 41)
                    have HRR := Lib.hid (And.intro hR (And.intro hb (And.intro hnew (And.intro n8 hl))))
                    clear hR hb hnew n8 hl
                    go_simp
                    obtain ⟨hR, hb, hnew, n8, hl⟩ := HRR.out
                    have l7 : l 7 = false := hl
                    have hra := hR.ra.keep (w' := wx.alloc (.cells #[.int .u32 (x : Int)] 41)) (fun g _ _ hc => hb.block g (lt_of_heap hc))
                    rw [if_neg (by rw [n8]; decide), if_neg (by rw [n8]; decide)] at hra
                    have n17 : l 17 = false := by
                      cases e : l 17 with
                      | false => rfl
                      | true => have := hR.d17 e; rw [n8] at this; cases this
                    refine hK (wx.heap.size, z.2) _ (fun j hj => ?_) ⟨(hb.block _ (lt_of_heap hR.op)).trans hR.op, (hb.block _ (lt_of_heap hR.un)).trans hR.un, (hb.block _ (lt_of_heap hR.p)).trans hR.p, (hb.block _ (lt_of_heap hR.u)).trans hR.u, (hb.block _ (lt_of_heap hR.a)).trans hR.a, (hb.block _ (lt_of_heap hR.t)).trans hR.t, hR.ps.below hb, hR.ra.keep (fun g _ _ hc => hb.block g (lt_of_heap hc)), hR.rt.keep (fun g _ _ hc => hb.block g (lt_of_heap hc)), (fun _ _ => hnew), (fun h h8 => (hb.block _ (lt_of_heap (hR.b2 h h8))).trans (hR.b2 h h8)), hR.d17, hR.d19, (fun h => ⟨rfl, (hR.d8 h).2⟩), hR.d14, low_more hR.low hb, Nat.le_trans hR.base_ hb.size⟩
                    · rcases j with _ | _ | _ | _ | _ | _ | _ | _ | _ | _ | _ | _ | _ | _ | _ | _ | _ | _ | _ | _ | _ | j
                      all_goals first | rfl | (rw [hl] at hj; cases hj)
                  · obtain rfl : _ = o := Option.some.inj ho
                    have lb := he ⟨7, .data⟩ (by simp) rfl
                    have l4 := he ⟨4, .data⟩ (by simp) rfl
                    have n8 : l 8 = false := hl
                    have hra := hR.ra
                    rw [if_neg (by rw [n8]; decide), if_neg (by rw [n8]; decide)] at hra
                    have hown := hra.own k hk8
                    have hbk := hR.b1 lb n8
                    obtain ⟨i0, hi0, hz0, hz1, hz2⟩ := info_parts u32_info
                    have hAn := (HAN.out k hk8).1
                    refine wp_append_lies wx (.tmp 83) (.tmp 86) 37 rfl (ba + 3) 41 i0 _ 1 4 Try.underlying37 hi0 hz0 hz1 hz2 rfl (by decide) (VA k) (A k).length (numC .u32 (A k)) rfl hown ⟨z.1, 0, none⟩ 1 1 [.int .u32 (x : Int)] rfl rfl (news_one hbk) (by simp [Value.oneCell']) (by decide) (by unfold maxLen; omega) (by omega) hR.base_ _ rfl ?_
                    intro g c' w' ho2 hg2 hl2 _
                    have hmz := grown_mod hown hg2
                    have hkeep : ∀ (b : Nat) (c : Array Value) (t : TypeId), wx.heap[b]? = some (.cells c t (0, 0)) → t ≠ 41 → w'.heap[b]? = some (.cells c t (0, 0)) := fun b c t h1 h2 => grown_keep hown hg2 h1 h2
                    have hlow : Below W.heap.size W w' := hR.low.trans (hmz.below hR.low.size fun b hb hs => by have := HOb.out; unfold BKO at this; omega)
                    have n17 : l 17 = false := by
                      cases e : l 17 with
                      | false => rfl
                      | true => have := hR.d17 e; rw [n8] at this; cases this
                    have hgrow := hra.grow hk8 (own_snoc ho2 rfl) hg2 hl2
                    refine hK (z.1, z.2.1, .slice (some ⟨g, 0, none⟩) ((A k).length + 1) c', z.2.2.2) w' (fun j hj => ?_) ⟨hkeep _ _ _ hR.op (by decide), hkeep _ _ _ hR.un (by decide), hkeep _ _ _ hR.p (by decide), hkeep _ _ _ hR.u (by decide), ?_, hkeep _ _ _ hR.t (by decide), hR.ps.mod hmz (fun h => by have := HOb.out; unfold BKO at this; omega) (fun h => by have := HOb.out; unfold BKO at this; omega), hgrow, hR.rt.other hown hg2 (by decide), (fun _ h => by cases h), (fun h h2 => hkeep _ _ _ (hR.b2 h h2) (by decide)), (fun _ => rfl), hR.d19, (fun _ => ⟨lb, l4⟩), hR.d14, hlow, Nat.le_trans hR.base_ hg2.size⟩
                    · rcases j with _ | _ | _ | _ | _ | _ | _ | _ | _ | _ | _ | _ | _ | _ | _ | _ | _ | _ | _ | _ | _ | j
                      all_goals first | rfl | (rw [hl] at hj; cases hj)
                    · have ha := hkeep _ _ _ hR.a (by decide)
                      rw [if_neg (by rw [n17]; decide)] at ha
                      rw [if_neg (by show ¬ ((17 == 8 || l 17) = true); rw [n17]; decide)]
                      exact ha
                  · obtain rfl : _ = o := Option.some.inj ho
                    go_simp
                    exact hK z wx (fun _ _ => rfl) ⟨hR.op, hR.un, hR.p, hR.u, hR.a, hR.t, hR.ps, hR.ra, hR.rt, hR.b1, hR.b2, hR.d17, hR.d19, hR.d8, hR.d14, hR.low, hR.base_⟩
                  · obtain rfl : _ = o := Option.some.inj ho
                    go_simp
                    exact hK z wx (fun _ _ => rfl) ⟨hR.op, hR.un, hR.p, hR.u, hR.a, hR.t, hR.ps, hR.ra, hR.rt, hR.b1, hR.b2, hR.d17, hR.d19, hR.d8, hR.d14, hR.low, hR.base_⟩
                  · obtain rfl : _ = o := Option.some.inj ho
                    have n19 : l 19 = false := by
                      cases e : l 19 with
                      | false => rfl
                      | true => have := (hR.d14 (hR.d19 e)).2; rw [hl] at this; cases this
                    have ht := hR.t
                    rw [if_neg (by rw [n19]; decide)] at ht
                    have c0 : wx.cell? ⟨ba + 1, k, none⟩ = some (VT k) := (cell_at ht k).trans (vals8_get _ k hk8)
                    go_simp
                    exact hK z wx (fun _ _ => rfl) ⟨hR.op, hR.un, hR.p, hR.u, hR.a, hR.t, hR.ps, hR.ra, hR.rt, hR.b1, hR.b2, hR.d17, hR.d19, hR.d8, (fun h => ⟨(hR.d14 h).1, rfl⟩), hR.low, hR.base_⟩
                  · obtain rfl : _ = o := Option.some.inj ho
                    go_simp
                    exact hK z wx (fun _ _ => rfl) ⟨hR.op, hR.un, hR.p, hR.u, hR.a, hR.t, hR.ps, hR.ra, hR.rt, hR.b1, hR.b2, hR.d17, hR.d19, hR.d8, hR.d14, hR.low, hR.base_⟩
                  · obtain rfl : _ = o := Option.some.inj ho
                    have n14 : l 14 = false := by
                      cases e : l 14 with
                      | false => rfl
                      | true => have := (hR.d14 e).1; rw [hl] at this; cases this
                    have hb := below_one (w := wx) (A := .cells #[.int .i64 (tn : Int)] 3)
                    have hnew := heap_alloc_new wx (.cells #[.int .i64 (tn : Int)] 3)
                    have HRR := Lib.hid (And.intro hR (And.intro hb (And.intro hnew (And.intro n14 hl))))
                    clear hR hb hnew n14 hl
                    go_simp
                    obtain ⟨hR, hb, hnew, n14, hl⟩ := HRR.out
                    refine hK (z.1, wx.heap.size, z.2.2) _ (fun j hj => ?_) ⟨(hb.block _ (lt_of_heap hR.op)).trans hR.op, (hb.block _ (lt_of_heap hR.un)).trans hR.un, (hb.block _ (lt_of_heap hR.p)).trans hR.p, (hb.block _ (lt_of_heap hR.u)).trans hR.u, (hb.block _ (lt_of_heap hR.a)).trans hR.a, (hb.block _ (lt_of_heap hR.t)).trans hR.t, hR.ps.below hb, hR.ra.keep (fun g _ _ hc => hb.block g (lt_of_heap hc)), hR.rt.keep (fun g _ _ hc => hb.block g (lt_of_heap hc)), (fun h h8 => (hb.block _ (lt_of_heap (hR.b1 h h8))).trans (hR.b1 h h8)), (fun _ _ => hnew), hR.d17, hR.d19, hR.d8, (fun h => ⟨rfl, (hR.d14 h).2⟩), low_more hR.low hb, Nat.le_trans hR.base_ hb.size⟩
                    · rcases j with _ | _ | _ | _ | _ | _ | _ | _ | _ | _ | _ | _ | _ | _ | _ | _ | _ | _ | _ | _ | _ | j
                      all_goals first | rfl | (rw [hl] at hj; cases hj)
                  · obtain rfl : _ = o := Option.some.inj ho
                    have lb := he ⟨13, .data⟩ (by simp) rfl
                    have l4 := he ⟨11, .data⟩ (by simp) rfl
                    have n8 : l 14 = false := hl
                    have hra := hR.rt
                    rw [if_neg (by rw [n8]; decide), if_neg (by rw [n8]; decide)] at hra
                    have hown := hra.own k hk8
                    have hbk := hR.b2 lb n8
                    obtain ⟨i0, hi0, hz0, hz1, hz2⟩ := info_parts int_info
                    have hAn := (HAN.out k hk8).2
                    refine wp_append_lies wx (.tmp 90) (.tmp 92) 39 rfl (ba + 3) 3 i0 _ 1 8 Try.underlying39 hi0 hz0 hz1 hz2 rfl (by decide) (VT k) (TT k).length (numC .i64 (TT k)) rfl hown ⟨z.2.1, 0, none⟩ 1 1 [.int .i64 (tn : Int)] rfl rfl (news_one hbk) (by simp [Value.oneCell']) (by decide) (by unfold maxLen; omega) (by omega) hR.base_ _ rfl ?_
                    intro g c' w' ho2 hg2 hl2 _
                    have hmz := grown_mod hown hg2
                    have hkeep : ∀ (b : Nat) (c : Array Value) (t : TypeId), wx.heap[b]? = some (.cells c t (0, 0)) → t ≠ 3 → w'.heap[b]? = some (.cells c t (0, 0)) := fun b c t h1 h2 => grown_keep hown hg2 h1 h2
                    have hlow : Below W.heap.size W w' := hR.low.trans (hmz.below hR.low.size fun b hb hs => by have := HOb.out; unfold BKO at this; omega)
                    have n19 : l 19 = false := by
                      cases e : l 19 with
                      | false => rfl
                      | true => have := hR.d19 e; rw [n8] at this; cases this
                    have hgrow := hra.grow hk8 (own_snoc ho2 rfl) hg2 hl2
                    refine hK (z.1, z.2.1, z.2.2.1, .slice (some ⟨g, 0, none⟩) ((TT k).length + 1) c') w' (fun j hj => ?_) ⟨hkeep _ _ _ hR.op (by decide), hkeep _ _ _ hR.un (by decide), hkeep _ _ _ hR.p (by decide), hkeep _ _ _ hR.u (by decide), hkeep _ _ _ hR.a (by decide), ?_, hR.ps.mod hmz (fun h => by have := HOb.out; unfold BKO at this; omega) (fun h => by have := HOb.out; unfold BKO at this; omega), hR.ra.other hown hg2 (by decide), hgrow, (fun h h2 => hkeep _ _ _ (hR.b1 h h2) (by decide)), (fun _ h => by cases h), hR.d17, (fun _ => rfl), hR.d8, (fun _ => ⟨lb, l4⟩), hlow, Nat.le_trans hR.base_ hg2.size⟩
                    · rcases j with _ | _ | _ | _ | _ | _ | _ | _ | _ | _ | _ | _ | _ | _ | _ | _ | _ | _ | _ | _ | _ | j
                      all_goals first | rfl | (rw [hl] at hj; cases hj)
                    · have ht := hkeep _ _ _ hR.t (by decide)
                      rw [if_neg (by rw [n19]; decide)] at ht
                      rw [if_neg (by show ¬ ((19 == 14 || l 19) = true); rw [n19]; decide)]
                      exact ht
                  · obtain rfl : _ = o := Option.some.inj ho
                    refine wp_load_row 27 (.tmp 18) rfl ub rfl 27 (six U') (0, 0) _ hR.un Try.underlying27 rfl (six_info _) ?_
                    exact hK z wx (fun _ _ => rfl) ⟨hR.op, hR.un, hR.p, hR.u, hR.a, hR.t, hR.ps, hR.ra, hR.rt, hR.b1, hR.b2, hR.d17, hR.d19, hR.d8, hR.d14, hR.low, hR.base_⟩
                  · obtain rfl : _ = o := Option.some.inj ho
                    go_simp
                    exact hK z wx (fun _ _ => rfl) ⟨hR.op, hR.un, hR.p, hR.u, hR.a, hR.t, hR.ps, hR.ra, hR.rt, hR.b1, hR.b2, hR.d17, hR.d19, hR.d8, hR.d14, hR.low, hR.base_⟩
                  · obtain rfl : _ = o := Option.some.inj ho
                    have l8 := he ⟨8, .data⟩ (by simp) rfl
                    have n17 : l 17 = false := hl
                    have ha := hR.a
                    rw [if_neg (by rw [n17]; decide)] at ha
                    have c0 : wx.cell? ⟨ba, k, none⟩ = some (VA k) := (cell_at ha k).trans (vals8_get _ k hk8)
                    have f0 : wx.frozen? ⟨ba, k, none⟩ = false := free_at ha k
                    have hsl : ∃ oz nz cz, z.2.2.1 = .slice oz nz cz := by
                      have hx := hR.ra.own k hk8
                      rw [if_pos l8, if_pos l8] at hx
                      unfold setV at hx
                      rw [if_pos rfl] at hx
                      obtain ⟨oz, cz, e, _⟩ := hx.reads
                      exact ⟨oz, _, cz, e⟩
                    obtain ⟨oz, nz, cz, hzz⟩ := hsl
                    have HRR := Lib.hid (And.intro hR (And.intro ha (And.intro l8 n17)))
                    clear hR ha l8 n17 hl
                    have HZZ := Lib.hid hzz
                    rw [hzz]
                    clear hzz
                    go_simp
                    obtain ⟨hR, ha, l8, n17⟩ := HRR.out
                    rw [← HZZ.out]
                    have hs : ∀ (b : Nat) (c : Array Value) (t : TypeId), wx.heap[b]? = some (.cells c t (0, 0)) → t ≠ 38 → (wx.setCell ⟨ba, k, none⟩ z.2.2.1).heap[b]? = some (.cells c t (0, 0)) := fun b c t h1 h2 => by
                      refine (Below.heap_setCell _ _ _ _ ?_).trans h1
                      rintro rfl
                      rw [ha] at h1
                      injection h1 with h1
                      injection h1 with _ h3
                      exact h2 h3.symm
                    have hmz : Mod (fun b => b = ba) wx (wx.setCell ⟨ba, k, none⟩ z.2.2.1) := Mod.setCell (S := fun b => b = ba) (Mod.refl _ _) (.inr rfl) _
                    refine hK z _ (fun _ _ => rfl) ⟨(hs _ _ _ hR.op (by decide)), (hs _ _ _ hR.un (by decide)), (hs _ _ _ hR.p (by decide)), (hs _ _ _ hR.u (by decide)), ?_, (hs _ _ _ hR.t (by decide)), (hR.ps.mod hmz (fun h => by have := HOb.out; unfold BKO at this; omega) (fun h => by have := HOb.out; unfold BKO at this; omega)), (hR.ra.mod hmz fun g hg e => by have := HOb.out; unfold BKO at this; omega), (hR.rt.mod hmz fun g hg e => by have := HOb.out; unfold BKO at this; omega), (fun h h2 => hs _ _ _ (hR.b1 h h2) (by decide)), (fun h h2 => hs _ _ _ (hR.b2 h h2) (by decide)), (fun _ => l8), hR.d19, hR.d8, hR.d14, (hR.low.setCell (by have := HOb.out; unfold BKO at this; show _ ≤ ba; omega) _), (by simpa using hR.base_)⟩
                    show (wx.setCell ⟨ba, k, none⟩ z.2.2.1).heap[ba]? = some (.cells (vals8 (setV VA k z.2.2.1)) 38 (0, 0))
                    rw [heap_setCell_same _ _ _ _ _ _ ha, vals8_set _ _ _ hk8]
                  · obtain rfl : _ = o := Option.some.inj ho
                    go_simp
                    exact hK z wx (fun _ _ => rfl) ⟨hR.op, hR.un, hR.p, hR.u, hR.a, hR.t, hR.ps, hR.ra, hR.rt, hR.b1, hR.b2, hR.d17, hR.d19, hR.d8, hR.d14, hR.low, hR.base_⟩
                  · obtain rfl : _ = o := Option.some.inj ho
                    have l8 := he ⟨14, .data⟩ (by simp) rfl
                    have n17 : l 19 = false := hl
                    have ha := hR.t
                    rw [if_neg (by rw [n17]; decide)] at ha
                    have c0 : wx.cell? ⟨(ba + 1), k, none⟩ = some (VT k) := (cell_at ha k).trans (vals8_get _ k hk8)
                    have f0 : wx.frozen? ⟨(ba + 1), k, none⟩ = false := free_at ha k
                    have hsl : ∃ oz nz cz, z.2.2.2 = .slice oz nz cz := by
                      have hx := hR.rt.own k hk8
                      rw [if_pos l8, if_pos l8] at hx
                      unfold setV at hx
                      rw [if_pos rfl] at hx
                      obtain ⟨oz, cz, e, _⟩ := hx.reads
                      exact ⟨oz, _, cz, e⟩
                    obtain ⟨oz, nz, cz, hzz⟩ := hsl
                    have HRR := Lib.hid (And.intro hR (And.intro ha (And.intro l8 n17)))
                    clear hR ha l8 n17 hl
                    have HZZ := Lib.hid hzz
                    rw [hzz]
                    clear hzz
                    go_simp
                    obtain ⟨hR, ha, l8, n17⟩ := HRR.out
                    rw [← HZZ.out]
                    have hs : ∀ (b : Nat) (c : Array Value) (t : TypeId), wx.heap[b]? = some (.cells c t (0, 0)) → t ≠ 40 → (wx.setCell ⟨(ba + 1), k, none⟩ z.2.2.2).heap[b]? = some (.cells c t (0, 0)) := fun b c t h1 h2 => by
                      refine (Below.heap_setCell _ _ _ _ ?_).trans h1
                      rintro rfl
                      rw [ha] at h1
                      injection h1 with h1
                      injection h1 with _ h3
                      exact h2 h3.symm
                    have hmz : Mod (fun b => b = (ba + 1)) wx (wx.setCell ⟨(ba + 1), k, none⟩ z.2.2.2) := Mod.setCell (S := fun b => b = (ba + 1)) (Mod.refl _ _) (.inr rfl) _
                    refine hK z _ (fun _ _ => rfl) ⟨(hs _ _ _ hR.op (by decide)), (hs _ _ _ hR.un (by decide)), (hs _ _ _ hR.p (by decide)), (hs _ _ _ hR.u (by decide)), (hs _ _ _ hR.a (by decide)), ?_, (hR.ps.mod hmz (fun h => by have := HOb.out; unfold BKO at this; omega) (fun h => by have := HOb.out; unfold BKO at this; omega)), (hR.ra.mod hmz fun g hg e => by have := HOb.out; unfold BKO at this; omega), (hR.rt.mod hmz fun g hg e => by have := HOb.out; unfold BKO at this; omega), (fun h h2 => hs _ _ _ (hR.b1 h h2) (by decide)), (fun h h2 => hs _ _ _ (hR.b2 h h2) (by decide)), hR.d17, (fun _ => l8), hR.d8, hR.d14, (hR.low.setCell (by have := HOb.out; unfold BKO at this; show _ ≤ (ba + 1); omega) _), (by simpa using hR.base_)⟩
                    show (wx.setCell ⟨(ba + 1), k, none⟩ z.2.2.2).heap[(ba + 1)]? = some (.cells (vals8 (setV VT k z.2.2.2)) 40 (0, 0))
                    rw [heap_setCell_same _ _ _ _ _ _ ha, vals8_set _ _ _ hk8]
                  · obtain rfl : _ = o := Option.some.inj ho
                    refine wp_store_row 27 (.tmp 11) (.tmp 94) rfl (ba + 2) (six U') rfl rfl 27 _ hR.u (six_info _) rfl (six_one _) ?_
                    have hmz : Mod (fun b => b = ba + 2) wx (wx.setRow (ba + 2) (six U')) := Mod.setRow (S := fun b => b = ba + 2) (Mod.refl _ _) (.inr rfl) _
                    exact hK z _ (fun _ _ => rfl) ⟨((setRow_other _ _ _ _ HUb.out.1).trans hR.op), ((setRow_other _ _ _ _ HUb.out.2).trans hR.un), ((setRow_other _ _ _ _ (HNe.out.1)).trans hR.p), (setRow_heap _ _ _ _ _ _ hR.u), ((setRow_other _ _ _ _ HNe.out.2.1).trans hR.a), ((setRow_other _ _ _ _ HNe.out.2.2).trans hR.t), (hR.ps.mod hmz HNm.out.1 HNm.out.2), (hR.ra.mod hmz fun g hg e => by have := HOb.out; unfold BKO at this; omega), (hR.rt.mod hmz fun g hg e => by have := HOb.out; unfold BKO at this; omega), (fun h h2 => (hmz.block _ (lt_of_heap (hR.b1 h h2)) (fun e => by have h3 := hR.b1 h h2; rw [e] at h3; have h4 := h3.symm.trans hR.u; injection h4 with h4; injection h4 with _ h5; exact absurd h5 (by decide))).trans (hR.b1 h h2)), (fun h h2 => (hmz.block _ (lt_of_heap (hR.b2 h h2)) (fun e => by have h3 := hR.b2 h h2; rw [e] at h3; have h4 := h3.symm.trans hR.u; injection h4 with h4; injection h4 with _ h5; exact absurd h5 (by decide))).trans (hR.b2 h h2)), hR.d17, hR.d19, hR.d8, hR.d14, (below_setRow hR.low (by have := HOb.out; unfold BKO at this; omega) _), (by simpa using hR.base_)⟩
                  · simp at ho
                clear HR0
                intro z l w8 hl hR
                have HN8 : Hid (BK W p (ba + 2) ba (ba + 1) (cb + 1) cb (ba + 3) B S C T L U' cs' D' (setT tails k (tn : Int)) (setV VA k z.2.2.1) (setV VT k z.2.2.2) (setL A k (A k ++ [x])) (setL TT k (TT k ++ [tn])) (2 * (i + 1)) (i + 1) w8) := Lib.hid (by
                  have q1 := hR.u
                  have q2 := hR.a
                  have q3 := hR.t
                  have q4 := hR.ra
                  have q5 := hR.rt
                  rw [if_pos (hl 20 (by decide))] at q1
                  rw [if_pos (hl 17 (by decide))] at q2
                  rw [if_pos (hl 19 (by decide))] at q3
                  rw [if_pos (hl 8 (by decide)), if_pos (hl 8 (by decide))] at q4
                  rw [if_pos (hl 14 (by decide)), if_pos (hl 14 (by decide))] at q5
                  have hli := HLi.out.add hk8 (by rw [HTl2.out]; exact HOk.out)
                  rw [Int.toNat_natCast] at hli
                  exact ⟨hR.p, q1, q2, q3, hR.ps, q4, q5, hli, hR.low, hR.base_⟩)
                clear hR hl
                go_wp2_with fail
                go_roundw
                case rel => exact ⟨i + 1, _, _, _, _, _, _, _, _, by omega, by omega, by go_num, HN8.out⟩
                case measure => simp [intOf]; omega
        · have hlt1 : ¬ (i : Int) < (n1 : Int) := by omega
          clear hbw
          go_wp2_with fail
          go_meet
          exact ⟨i, Us, cs, D, tails, VA, VT, A, TT, hi61, HA.out⟩
    case rest =>
      obtain ⟨N, Us, cs, D, tails, VA, VT, A, TT, hN, hA⟩ := hcut
      have HA := Lib.hid hA
      clear hA HF HNe HNm
      go_wp2_with fail
      go_loopw [98] (fun kv wr => ∃ (k M : Nat), k ≤ 8 ∧ kv = .int .i64 k ∧ M ≤ 200 + 20000 * k ∧ BK W p (ba + 2) ba (ba + 1) (cb + 1) cb (ba + 3) B S C T L Us cs D tails VA VT A TT M N wr) (fun kv _ => 8 - (intOf kv).toNat)
      case atStart => exact ⟨0, 2 * N, by omega, rfl, by omega, HA.out⟩
      case round =>
        clear HA
        obtain ⟨k, M, hk9, rfl, hM, hA⟩ := hrel
        by_cases hk8 : k < 8
        · have hk81 : (k : Int) < 8 := by omega
          obtain ⟨oT, cT, hVT, hcT0, hcT1, _, hRT⟩ := (hA.rt.own k hk8).reads
          obtain ⟨oA, cA, hVA, hcA0, hcA1, _, hRA⟩ := (hA.ra.own k hk8).reads
          obtain ⟨nT, hnT⟩ : ∃ nT, nT = (TT k).length := ⟨_, rfl⟩
          have hnA : (A k).length = nT := by rw [hnT]; exact (hA.li.len k hk8).1
          have hn61 : nT ≤ 61 := by have := (hA.li.len k hk8).2; omega
          rw [← hnT] at hVT
          rw [hnA] at hVA
          have HVT := Lib.hid hVT
          have HVA := Lib.hid hVA
          have HNT := Lib.hid (And.intro hnT hnA)
          have cT1 : wr.cell? ⟨ba + 1, k, none⟩ = some (.slice oT nT cT) := by rw [← hVT]; exact (cell_at hA.t k).trans (vals8_get _ k hk8)
          have HA := Lib.hid hA
          clear hVT hVA hcT0 hcA0 hcT1 hcA1 hRT hRA hnT hnA hA
          go_wp2_with fail
          go_loopw [105] (fun iv wy => ∃ (i M' : Nat), i ≤ nT ∧ iv = .int .i64 i ∧ M' ≤ 200 + 20000 * k + 200 * i ∧ BK W p (ba + 2) ba (ba + 1) (cb + 1) cb (ba + 3) B S C T L Us cs D tails VA VT A TT M' N wy) (fun iv _ => nT - (intOf iv).toNat)
          case atStart => exact ⟨0, M, by omega, rfl, by omega, HA.out⟩
          case round =>
            clear HA cT1
            obtain ⟨i, M', hi, rfl, hM', hA⟩ := hrel
            by_cases hlt : i < nT
            · have hlt1 : (i : Int) < (nT : Int) := by omega
              obtain ⟨tt, htt⟩ : ∃ tt, (TT k)[i]? = some tt := ⟨_, List.getElem?_eq_getElem (by have := HNT.out.1; omega)⟩
              have hRT := (hA.rt.own k hk8).reads
              obtain ⟨oT2, cT2, e2, _, _, _, hRT⟩ := hRT
              rw [HVT.out] at e2
              injection e2 with e3 e4 e5
              subst e3
              obtain ⟨g9, o9, rfl, c9⟩ := hRT i tt htt
              have cT1 : wr.cell? ⟨ba + 1, k, none⟩ = some (.slice (some ⟨g9, o9, none⟩) nT cT) := by rw [← HVT.out]; exact (cell_at hA.t k).trans (vals8_get _ k hk8)
              have hch := hA.li.chain k i tt hk8 htt
              obtain ⟨ws, hws⟩ : ∃ ws, ws = ((A k).take (i + 1)).reverse := ⟨_, rfl⟩
              have hwl : ws.length = i + 1 := by rw [hws, List.length_reverse, List.length_take]; have := HNT.out.2; omega
              have HWS := Lib.hid (show ∀ j y, ws[j]? = some y → j ≤ i ∧ (A k)[i - j]? = some y from fun j y hj => by
                have hjl := (List.getElem?_eq_some_iff.1 hj).1
                refine ⟨by omega, ?_⟩
                have hA1 : ((A k).take (i + 1)).length = i + 1 := by rw [List.length_take]; have := HNT.out.2; omega
                rw [hws, List.getElem?_reverse (by rw [hA1]; omega), hA1, List.getElem?_take] at hj
                rw [if_pos (by omega)] at hj
                rw [show i - j = i + 1 - 1 - j by omega]
                exact hj)
              rw [← hws] at hch
              obtain ⟨r, hr⟩ : ∃ r, r = i % 3 := ⟨_, rfl⟩
              have r1 : (i : Int) % 3 = (r : Int) := by omega
              have r2 : (i : Int).tmod 3 = (r : Int) := by rw [Int.tmod_eq_emod_of_nonneg (by omega)]; exact r1
              have r3 : IntKind.i64.wrap (r : Int) = (r : Int) := IntWalk.i64_in _ (by omega)
              have i0 : (0 : Int) ≤ (i : Int) := by omega
              obtain ⟨l1, hl1⟩ : ∃ l1, l1 = nT - 1 := ⟨_, rfl⟩
              have u1 : (nT : Int) - 1 = (l1 : Int) := by omega
              have u2 : IntKind.i64.wrap (l1 : Int) = (l1 : Int) := IntWalk.i64_in _ (by omega)
              have HA := Lib.hid hA
              have HCh := Lib.hid hch
              have HWL := Lib.hid hwl
              obtain ⟨ti, hti⟩ : ∃ ti : Int, ti = (tt : Int) := ⟨_, rfl⟩
              rw [← hti] at c9 hch
              have HCh := Lib.hid hch
              clear hr hl1 hRT htt hws hwl hch hti hA e4 e5
              by_cases hskip : 0 < r ∧ i < l1
              · obtain ⟨h1, h2⟩ := hskip
                have h1' : (0 : Int) < (r : Int) := by omega
                have h2' : (i : Int) < (l1 : Int) := by omega
                clear h1 h2
                go_wp2_with fail
                go_roundw
                case rel => exact ⟨i + 1, M', by omega, by go_num, by omega, HA.out⟩
                case measure => simp [intOf]; omega
              · have HPl := Lib.hid HA.out.p
                have HWk : Hid (∀ w9, w9 = wr → Calls Try.prog 10 #[.pointer (some ⟨cb + 1, 0, none⟩), .agg (planC B S C T L), .int .i64 ti] w9 fun e w' => ∃ oa c, e = .returned (.slice oa (i + 1) c) ∧ i + 1 ≤ c ∧ ReadN .u32 w' oa ws ∧ BK W p (ba + 2) ba (ba + 1) (cb + 1) cb (ba + 3) B S C T L Us cs D tails VA VT A TT (M' + 200) N w') := Lib.hid (by
                  rintro w9 rfl
                  have hA := HA.out
                  obtain ⟨l, s, hmem, l0, s0, hls⟩ := hA.ps.mem
                  refine (walk_at HK.out (T := T) (L := L) hmem l0 s0 (by omega) hA.ps.cells HL.out hA.ps.inv.len HCh.out).mono ?_
                  rintro e w' ⟨oa, c, q1, q2, q3, q4, q5, q6, ⟨l', s', q7, q8, q9, q10⟩, q11⟩
                  have hO := HOb.out
                  unfold BKO at hO
                  have hw := HWL.out
                  rw [hw] at q1 q2 q10
                  refine ⟨oa, c, q1, q2, q5, ⟨(q11.block _ (lt_of_heap hA.p) (by omega)).trans hA.p, (q11.block _ (lt_of_heap hA.u) (by omega)).trans hA.u, (q11.block _ (lt_of_heap hA.a) (by omega)).trans hA.a, (q11.block _ (lt_of_heap hA.t) (by omega)).trans hA.t, ⟨⟨l', s', q7, q8, q9, by omega⟩, hA.ps.inv, hA.ps.cells⟩, hA.ra.mod q11 (fun g hg e => by omega), hA.rt.mod q11 (fun g hg e => by omega), hA.li, hA.low.trans (q11.below hA.low.size fun g hg e => by omega), Nat.le_trans hA.base_ q11.size⟩⟩)
                have HFIN : Hid (∀ (w9 : World) (oa : Option Addr), BK W p (ba + 2) ba (ba + 1) (cb + 1) cb (ba + 3) B S C T L Us cs D tails VA VT A TT (M' + 200) N w9 → ∃ (i' M'' : Nat), i' ≤ nT ∧ Value.int .i64 ((i + 1 : Nat) : Int) = .int .i64 i' ∧ M'' ≤ 200 + 20000 * k + 200 * i' ∧ BK W p (ba + 2) ba (ba + 1) (cb + 1) cb (ba + 3) B S C T L Us cs D tails VA VT A TT M'' N w9) := Lib.hid (fun w9 _ h => ⟨i + 1, M' + 200, by omega, rfl, by omega, h⟩)
                clear HA
                by_cases hr0 : 0 < r
                · have h1' : (0 : Int) < (r : Int) := by omega
                  have h2' : ¬ (i : Int) < (l1 : Int) := by omega
                  clear hskip hr0
                  go_wp2_with (refine wpList_load_row rfl 29 (.tmp 5) rfl p rfl 29 (planC B S C T L) (0, 0) _ HPl.out Try.underlying29 rfl (planC_info _ _ _ _ _) ?_)
                  refine (HWk.out _ rfl).mono ?_
                  clear HWk HPl
                  rintro e w9 ⟨oa, c, rfl, _, hrd, hbk⟩
                  have HRd := Lib.hid hrd
                  have HBk := Lib.hid hbk
                  clear hrd hbk cT1 c9
                  have ii1 : (i : Int) + 1 = ((i + 1 : Nat) : Int) := by omega
                  obtain ⟨i2, hi2⟩ : ∃ i2, i2 = i + 1 := ⟨_, rfl⟩
                  rw [← hi2] at ii1 ⊢
                  have ii2 : IntKind.i64.wrap (i2 : Int) = (i2 : Int) := IntWalk.i64_in _ (by omega)
                  have HI2 := Lib.hid hi2
                  have hi2a : i < i2 ∧ i2 ≤ 62 := by omega
                  clear hi2
                  go_wp2_with fail
                  go_loopw [133] (fun jv wz => ∃ j : Nat, j ≤ i2 ∧ jv = .int .i64 j ∧ ReadN .u32 wz oa ws ∧ BK W p (ba + 2) ba (ba + 1) (cb + 1) cb (ba + 3) B S C T L Us cs D tails VA VT A TT (M' + 200) N wz) (fun jv _ => i2 - (intOf jv).toNat)
                  case atStart => exact ⟨0, by omega, rfl, HRd.out, HBk.out⟩
                  case round =>
                    clear HRd HBk
                    obtain ⟨j, hj, rfl, hrd, hbk⟩ := hrel
                    by_cases hjl : j < i2
                    · have hjl1 : (j : Int) < (i2 : Int) := by omega
                      obtain ⟨y, hy⟩ : ∃ y, ws[j]? = some y := ⟨_, List.getElem?_eq_getElem (by have := HWL.out; have := HI2.out; omega)⟩
                      obtain ⟨gl, ol, rfl, cl⟩ := hrd j y hy
                      obtain ⟨hji, hAy⟩ := HWS.out j y hy
                      obtain ⟨oA2, cA2, eA, _, _, _, hRA⟩ := (hbk.ra.own k hk8).reads
                      rw [HVA.out] at eA
                      injection eA with eA1 eA2 eA3
                      subst eA1
                      obtain ⟨dd, hdd⟩ : ∃ dd, dd = i - j := ⟨_, rfl⟩
                      rw [← hdd] at hAy
                      obtain ⟨gA, oA3, rfl, cA1⟩ := hRA dd y hAy
                      have cAh : wr.cell? ⟨ba, k, none⟩ = some (.slice (some ⟨gA, oA3, none⟩) nT cA) := by rw [← HVA.out]; exact (cell_at hbk.a k).trans (vals8_get _ k hk8)
                      have v1 : (i : Int) - (j : Int) = (dd : Int) := by omega
                      have v2 : IntKind.i64.wrap (dd : Int) = (dd : Int) := IntWalk.i64_in _ (by omega)
                      have v3 : (dd : Int) < (nT : Int) := by omega
                      obtain ⟨yi, hyi⟩ : ∃ yi : Int, yi = (y : Int) := ⟨_, rfl⟩
                      rw [← hyi] at cl cA1
                      have HRd := Lib.hid hrd
                      have HBk := Lib.hid hbk
                      clear hrd hbk hy hAy hRA hdd hyi eA2 eA3 hji
                      go_wp2_with fail
                      go_quiet (fail)
                      go_wp2_with fail
                      go_roundw
                      case rel => exact ⟨j + 1, by omega, by go_num, HRd.out.drewN _, HBk.out.below (below_drawn (Below.refl _ _) _)⟩
                      case measure => simp [intOf]; omega
                    · have hjl1 : ¬ (j : Int) < (i2 : Int) := by omega
                      have HBk := Lib.hid hbk
                      clear hrd hbk
                      go_wp2_with fail
                      go_roundw
                      case rel => rw [HI2.out]; exact HFIN.out _ oa HBk.out
                      case measure => simp [intOf]; omega
                · have h1' : ¬ (0 : Int) < (r : Int) := by omega
                  clear hskip hr0
                  go_wp2_with (refine wpList_load_row rfl 29 (.tmp 5) rfl p rfl 29 (planC B S C T L) (0, 0) _ HPl.out Try.underlying29 rfl (planC_info _ _ _ _ _) ?_)
                  refine (HWk.out _ rfl).mono ?_
                  clear HWk HPl
                  rintro e w9 ⟨oa, c, rfl, _, hrd, hbk⟩
                  have HRd := Lib.hid hrd
                  have HBk := Lib.hid hbk
                  clear hrd hbk cT1 c9
                  have ii1 : (i : Int) + 1 = ((i + 1 : Nat) : Int) := by omega
                  obtain ⟨i2, hi2⟩ : ∃ i2, i2 = i + 1 := ⟨_, rfl⟩
                  rw [← hi2] at ii1 ⊢
                  have ii2 : IntKind.i64.wrap (i2 : Int) = (i2 : Int) := IntWalk.i64_in _ (by omega)
                  have HI2 := Lib.hid hi2
                  have hi2a : i < i2 ∧ i2 ≤ 62 := by omega
                  clear hi2
                  go_wp2_with fail
                  go_loopw [133] (fun jv wz => ∃ j : Nat, j ≤ i2 ∧ jv = .int .i64 j ∧ ReadN .u32 wz oa ws ∧ BK W p (ba + 2) ba (ba + 1) (cb + 1) cb (ba + 3) B S C T L Us cs D tails VA VT A TT (M' + 200) N wz) (fun jv _ => i2 - (intOf jv).toNat)
                  case atStart => exact ⟨0, by omega, rfl, HRd.out, HBk.out⟩
                  case round =>
                    clear HRd HBk
                    obtain ⟨j, hj, rfl, hrd, hbk⟩ := hrel
                    by_cases hjl : j < i2
                    · have hjl1 : (j : Int) < (i2 : Int) := by omega
                      obtain ⟨y, hy⟩ : ∃ y, ws[j]? = some y := ⟨_, List.getElem?_eq_getElem (by have := HWL.out; have := HI2.out; omega)⟩
                      obtain ⟨gl, ol, rfl, cl⟩ := hrd j y hy
                      obtain ⟨hji, hAy⟩ := HWS.out j y hy
                      obtain ⟨oA2, cA2, eA, _, _, _, hRA⟩ := (hbk.ra.own k hk8).reads
                      rw [HVA.out] at eA
                      injection eA with eA1 eA2 eA3
                      subst eA1
                      obtain ⟨dd, hdd⟩ : ∃ dd, dd = i - j := ⟨_, rfl⟩
                      rw [← hdd] at hAy
                      obtain ⟨gA, oA3, rfl, cA1⟩ := hRA dd y hAy
                      have cAh : wr.cell? ⟨ba, k, none⟩ = some (.slice (some ⟨gA, oA3, none⟩) nT cA) := by rw [← HVA.out]; exact (cell_at hbk.a k).trans (vals8_get _ k hk8)
                      have v1 : (i : Int) - (j : Int) = (dd : Int) := by omega
                      have v2 : IntKind.i64.wrap (dd : Int) = (dd : Int) := IntWalk.i64_in _ (by omega)
                      have v3 : (dd : Int) < (nT : Int) := by omega
                      obtain ⟨yi, hyi⟩ : ∃ yi : Int, yi = (y : Int) := ⟨_, rfl⟩
                      rw [← hyi] at cl cA1
                      have HRd := Lib.hid hrd
                      have HBk := Lib.hid hbk
                      clear hrd hbk hy hAy hRA hdd hyi eA2 eA3 hji
                      go_wp2_with fail
                      go_quiet (fail)
                      go_wp2_with fail
                      go_roundw
                      case rel => exact ⟨j + 1, by omega, by go_num, HRd.out.drewN _, HBk.out.below (below_drawn (Below.refl _ _) _)⟩
                      case measure => simp [intOf]; omega
                    · have hjl1 : ¬ (j : Int) < (i2 : Int) := by omega
                      have HBk := Lib.hid hbk
                      clear hrd hbk
                      go_wp2_with fail
                      go_roundw
                      case rel => rw [HI2.out]; exact HFIN.out _ oa HBk.out
                      case measure => simp [intOf]; omega
            · have hlt1 : ¬ (i : Int) < (nT : Int) := by omega
              have HA := Lib.hid hA
              clear hA
              go_wp2_with fail
              go_roundw
              case rel => exact ⟨k + 1, M', by omega, by go_num, by omega, HA.out⟩
              case measure => simp [intOf]; omega
        · have hk81 : ¬ (k : Int) < 8 := by omega
          have HB9 := Lib.hid hA.low
          clear hA
          go_wp2_with fail
          refine (HFx.out _).mono ?_; rintro e w9 ⟨rfl, hb⟩
          have HB9 := Lib.hid (low_more HB9.out hb)
          clear hb
          go_wp2_with fail
          go_ret
          exact ⟨rfl, HB9.out⟩
end Go.Proofs.Ytiabmbkmahlhkaa
