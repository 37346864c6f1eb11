/-
  The law DictUndisturbed's walk. Over the program's own text.
-/
import Derived.Test.YteliaammffmmiaaDictUndB
import Derived.Test.YteliaammffmmiaaStrs
import Derived.Deep.CutBlock
namespace Go.Proofs.Yteliaammffmmiaa
open Go.RowKit

/-- Behind so many texts of the first list. -/
structure AhD (W : World) (bm bs bp bu mb cb : Nat) (B S : Nat → Int) (Z T L s : Int) (key : ByteArray) (C i : Nat) (w : World) : Prop where
  ab : ∃ Us d cs N, AB bm bs bp bu mb B S Z T L s Us w ∧ DS 16 s B S Us C mb cb d cs N w ∧ N ≤ 300000 * i ∧ N ≤ 6000000
  q : w.heap[W.heap.size]? = some (.cells #[.string key] 9 (0, 0))
  low : Below W.heap.size W w
theorem AhD.add {findP : Int → Int → List Nat → Pr (Int × Int)} (K : KeptDict findP) {W w : World} {bm bs bp bu mb cb : Nat} {B S : Nat → Int} {Z T L s : Int} {key : ByteArray} {C i : Nat} (h : AhD W bm bs bp bu mb cb B S Z T L s key C i w) (hP : DP 16 s B S) (ho : AOrd bm bs bp bu mb cb) (hW : W.heap.size < bp) (hi : i < 20) (x : ByteArray) (hx : x.size ≤ reachBytes) :
    Calls Try.prog 12 #[.string x, .pointer (some ⟨bm, 0, none⟩), .pointer (some ⟨bs, 0, none⟩), .pointer (some ⟨bp, 0, none⟩), .pointer (some ⟨bu, 0, none⟩)] w fun e w' => e = .returned (.tuple #[]) ∧ AhD W bm bs bp bu mb cb B S Z T L s key C (i + 1) w' := by
  obtain ⟨⟨Us, d, cs, N, h1, h2, h3, h4⟩, hq, hlow⟩ := h
  refine (add_at K hP ho h1 h2 (by omega) x hx).mono ?_
  obtain ⟨o1, o2, o3, o4, o5⟩ := ho
  rintro e w' ⟨rfl, hm, Us', d', cs', hab', hds', _, _⟩
  exact ⟨rfl, ⟨Us', d', cs', N + 300000, hab', hds', by omega, by omega⟩, (hm.block _ (lt_of_heap hq) (by omega)).trans hq, low_mod hlow hm (by omega)⟩
theorem UndD.below {findP : Int → Int → List Nat → Pr (Int × Int)} {w0 w w' : World} {bm bs bp bu bq bg rb mb cb : Nat} {B S : Nat → Int} {Z T L s : Int} {key : ByteArray} {C : Nat} {d0 : Dict} {N n : Nat} {ov lat : Bool} (h : UndD findP w0 bm bs bp bu bq bg rb mb cb B S Z T L s key C d0 N n ov lat w) (hb : Below w.heap.size w w') : UndD findP w0 bm bs bp bu bq bg rb mb cb B S Z T L s key C d0 N n ov lat w' := by
  obtain ⟨⟨Us, d, st, go, a1, a2, a3, a4, a5, a6, a7, a8, a9, a10, a11, a12, a13, a14, a15, a16, a17⟩, ⟨u1, u2, ⟨i, u3⟩⟩, c, m⟩ := h
  refine ⟨⟨Us, d, st, go, a1.below hb, a2, a3, a4.below hb, a5, a6, a7, a8, a9, a10, a11, a12, a13, a14, a15, a16, fun ho => ?_⟩, ⟨(hb.block _ (lt_of_heap u1)).trans u1, (hb.block _ (lt_of_heap u2)).trans u2, ⟨i, (hb.block _ (lt_of_heap u3)).trans u3⟩⟩, c, m.then (Below.mod hb (fun _ => False) fun k hk hk' => by omega) fun _ _ h => h.elim⟩
  obtain ⟨x, h1, h2⟩ := a17 ho
  exact ⟨x, ⟨(hb.block _ (lt_of_heap h1.a)).trans h1.a⟩, h2⟩
theorem str_eq {x s : ByteArray} (h : x = s) : (x.toList == s.toList) = true := by rw [h]; simp
theorem str_ne {x s : ByteArray} (h : ¬ x = s) : (x.toList == s.toList) = false := by
  rw [beq_eq_false_iff_ne]
  intro e
  apply h
  rw [ByteArray.toList_eq, ByteArray.toList_eq] at e
  exact ByteArray.ext (Array.toList_inj.1 e)
set_option maxRecDepth 100000 in
set_option maxHeartbeats 3000000 in
theorem und_walk {findP : Int → Int → List Nat → Pr (Int × Int)} (K : KeptDict findP) (W : World) (oa1 oa2 oa3 : Option Addr) (n1 n2 n3 c1 c2 c3 : Nat) (F1 F2 : List ByteArray) (key : ByteArray) (L3 : List Nat) (e1 : F1.length = n1) (hF1 : ReadS W oa1 F1) (x1 : ∀ x ∈ F1, x.size ≤ reachBytes) (m1 : n1 ≤ maxLen) (e2 : F2.length = n2) (hF2 : ReadS W oa2 F2) (x2 : ∀ x ∈ F2, x.size ≤ reachBytes) (m2 : n2 ≤ maxLen) (hk : key.size ≤ reachBytes) (e3 : L3.length = n3) (hL3 : ReadN .u8 W oa3 L3) (x3 : ∀ y ∈ L3, y < 256) (m3 : n3 ≤ maxLen) :
    Calls Try.prog 4 #[.slice oa1 n1 c1, .slice oa2 n2 c2, .string key, .slice oa3 n3 c3] W fun e w' => e = .returned (.bool true) ∧ Below W.heap.size W w' := by
  obtain ⟨kl, hkl⟩ : ∃ kl, key.size = kl := ⟨_, rfl⟩
  have HE1 := Lib.hid (And.intro e1 (And.intro hF1 x1))
  have HE2 := Lib.hid (And.intro e2 (And.intro hF2 x2))
  have HE3 := Lib.hid (And.intro e3 (And.intro hL3 x3))
  have HKZ := Lib.hid (And.intro hk hkl)
  have hkz : (kl : Int) ≤ 9223372036854775807 := by rw [← hkl]; exact reach_int hk
  have s1 : (n1 : Int) ≤ 9223372036854775807 := by unfold maxLen at m1; omega
  have s2 : (n2 : Int) ≤ 9223372036854775807 := by unfold maxLen at m2; omega
  have s3 : (n3 : Int) ≤ 9223372036854775807 := by unfold maxLen at m3; omega
  clear e1 hF1 x1 m1 e2 hF2 x2 m2 hk e3 hL3 x3 m3
  have HK := Lib.hid K
  have HFx := Lib.hid (fun w => fixed_any K w)
  have HPl := Lib.hid (plan_at (W.alloc (.cells #[.string key] 9)) 599 (by omega) (by omega))
  obtain ⟨B, hB⟩ : ∃ B, B = dB 599 := ⟨_, rfl⟩
  obtain ⟨S, hS⟩ : ∃ S, S = dS 599 := ⟨_, rfl⟩
  obtain ⟨T, hT⟩ : ∃ T, T = slotsOf 64 := ⟨_, rfl⟩
  obtain ⟨L, hL⟩ : ∃ L, L = liveOf 1 64 := ⟨_, rfl⟩
  have HV := Lib.hid (show B 4 = 3 ∧ B 5 = 602 ∧ S 4 = 599 by have := d_vals 599; rw [hB, hS]; omega)
  have HDP := Lib.hid (show DP 16 602 B S by
    have := d_dp (bk := 599) (by omega) (by omega) 16 (by omega)
    rw [(d_vals 599).2.1] at this
    rw [hB, hS]
    exact this)
  have HNew := Lib.hid (show ∀ (mb cb : Nat) (w : World), MemAt w mb cb (List.replicate 618 0) 0 0 → DS 16 602 B S (fun _ => 0) 618 mb cb (fun _ => none) (List.replicate 618 0) 0 w by
    intro mb cb w hm
    have := DS.new (bk := 599) (by omega) (by omega) (n := 16) (by omega) (C := 618) (by omega) hm
    rw [(d_vals 599).2.1] at this
    rw [hB, hS]
    exact this)
  rw [← hB, ← hS, ← hT, ← hL, show (19 : Int) + 599 = 618 from rfl] at HPl
  clear K hB hS hT hL
  go_enter Try.func4, Try.ntmps4
  go_wp2_with fail
  refine HPl.out.mono ?_; rintro e w1 ⟨rfl, hb1⟩
  have hq1 : w1.heap[W.heap.size]? = some (.cells #[.string key] 9 (0, 0)) := (hb1.block _ (by simp)).trans (heap_alloc_new W _)
  have hz1 := lt_of_heap hq1
  have hB1 : Below W.heap.size W w1 := low_more below_one hb1
  clear hb1 HPl
  go_upto_region 2 with (first
    | (refine wpList_store_row rfl 25 (.tmp 9) (.tmp 29) rfl w1.heap.size (planC B S 618 T L) rfl rfl 25 (planC (fun _ => 0) (fun _ => 0) 0 0 0) (heap_alloc_new w1 _) (planC_info _ _ _ _ _) rfl (planC_one _ _ _ _ _) ?_)
    | fail)
  rw [World.setRow_alloc_new]
  obtain ⟨w2, hw2⟩ : ∃ w2, w2 = w1.alloc (.cells (planC B S 618 T L) 25) := ⟨_, rfl⟩
  rw [← hw2]
  have g2 : w2.heap[w1.heap.size]? = some (.cells (planC B S 618 T L) 25 (0, 0)) := by rw [hw2]; exact heap_alloc_new _ _
  have hq2 : w2.heap[W.heap.size]? = some (.cells #[.string key] 9 (0, 0)) := by rw [hw2]; exact heap_below hq1
  have hB2 : Below W.heap.size W w2 := by rw [hw2]; exact hB1.alloc hB1.size _
  obtain ⟨p, hp⟩ : ∃ p, p = w1.heap.size := ⟨_, rfl⟩
  rw [← hp] at g2 hz1 ⊢
  have c12 : w2.cell? ⟨p, 12, none⟩ = some (.int .i64 618) := cell_at g2 12
  have H2 := Lib.hid (And.intro g2 (And.intro hq2 hB2))
  clear hw2 hp hq1 hB1 g2 hq2 hB2
  go_wp2_with fail
  refine (new_ok w2 618 (by omega) (by omega)).mono ?_; rintro e w3 ⟨rfl, hm, hb⟩
  have h3 := (hb.block p (lt_of_heap H2.out.1)).trans H2.out.1
  have hq3 := (hb.block _ (lt_of_heap H2.out.2.1)).trans H2.out.2.1
  have hB3 := low_more H2.out.2.2 hb
  have hmz : w2.heap.size + 1 < w3.heap.size := lt_of_heap hm.rec_
  have hpc := lt_of_heap H2.out.1
  obtain ⟨cb, hcb⟩ : ∃ cb, cb = w2.heap.size := ⟨_, rfl⟩
  rw [← hcb] at hm hmz hpc ⊢
  obtain ⟨mb, hmb⟩ : ∃ mb, mb = cb + 1 := ⟨_, rfl⟩
  rw [← hmb] at hm hmz ⊢
  have hcm : cb < mb := by omega
  have H3 := Lib.hid (And.intro h3 (And.intro hq3 (And.intro hB3 (HNew.out mb cb w3 hm))))
  clear hb h3 hq3 hB3 hm hcb c12 H2 hmb HNew
  go_upto_region 3 with fail
  obtain ⟨w4, hw4⟩ : ∃ w4, w4 = w3.alloc (.cells #[.pointer (some ⟨mb, 0, none⟩)] 28) := ⟨_, rfl⟩
  rw [← hw4]
  have hb4 : Below w3.heap.size w3 w4 := by rw [hw4]; exact below_one
  have g4 : w4.heap[w3.heap.size]? = some (.cells #[.pointer (some ⟨mb, 0, none⟩)] 28 (0, 0)) := by rw [hw4]; exact heap_alloc_new _ _
  obtain ⟨bm, hbm⟩ : ∃ bm, bm = w3.heap.size := ⟨_, rfl⟩
  rw [← hbm] at g4 hmz ⊢
  have cm4 : w4.cell? ⟨bm, 0, none⟩ = some (.pointer (some ⟨mb, 0, none⟩)) := cell_at g4 0
  have H4 := Lib.hid (And.intro ((hb4.block p (lt_of_heap H3.out.1)).trans H3.out.1) (And.intro ((hb4.block _ (lt_of_heap H3.out.2.1)).trans H3.out.2.1) (And.intro (low_more H3.out.2.2.1 hb4) (And.intro (H3.out.2.2.2.below hb4) g4))))
  clear hw4 hb4 g4 hbm H3
  go_wp2_with fail
  refine (HFx.out _).mono ?_; rintro e w5 ⟨rfl, hb⟩
  have h5 := H4.out
  have H5 := Lib.hid (And.intro ((hb.block p (lt_of_heap h5.1)).trans h5.1) (And.intro ((hb.block _ (lt_of_heap h5.2.1)).trans h5.2.1) (And.intro (low_more h5.2.2.1 hb) (And.intro (h5.2.2.2.1.below hb) ((hb.block _ (lt_of_heap h5.2.2.2.2)).trans h5.2.2.2.2)))))
  have cq5 : w5.cell? ⟨W.heap.size, 0, none⟩ = some (.string key) := cell_at H5.out.2.1 0
  have cm5 : w5.cell? ⟨bm, 0, none⟩ = some (.pointer (some ⟨mb, 0, none⟩)) := cell_at H5.out.2.2.2.2 0
  clear hb h5 H4 cm4
  rcases Nat.lt_or_ge 100 kl with hlen | hlen
  · have hl1 : (100 : Int) < (kl : Int) := by omega
    go_wp2_with fail
    refine (HFx.out _).mono ?_; rintro e w6 ⟨rfl, hb⟩
    have HB6 := Lib.hid (low_more H5.out.2.2.1 hb)
    clear hb
    go_wp2_with fail
    go_ret
    exact ⟨rfl, HB6.out⟩
  have hl1 : ¬ (100 : Int) < (kl : Int) := by omega
  have c5 : w5.cell? ⟨p, 5, none⟩ = some (.int .i64 602) := by rw [← HV.out.2.1]; exact cell_at H5.out.1 5
  go_upto_region 8 with fail
  obtain ⟨w6, hw6⟩ : ∃ w6, w6 = (w5.alloc (.cells #[.int .i64 602] 3)).alloc (.cells (six fun _ => 0) 23) := ⟨_, rfl⟩
  rw [show (w5.alloc (.cells #[.int .i64 602] 3)).alloc (.cells #[.int .i64 0, .int .i64 0, .int .i64 0, .int .i64 0, .int .i64 0, .int .i64 0] 23) = w6 from hw6.symm]
  have hb6 : Below w5.heap.size w5 w6 := by rw [hw6]; exact below_al2
  have gs : w6.heap[w5.heap.size]? = some (.cells #[.int .i64 602] 3 (0, 0)) := by rw [hw6]; exact heap2_0 _ _ _
  have gu : w6.heap[w5.heap.size + 1]? = some (.cells (six fun _ => 0) 23 (0, 0)) := by rw [hw6]; exact heap2_1 _ _ _
  have hz5 := lt_of_heap H5.out.2.2.2.2
  obtain ⟨bs, hbs⟩ : ∃ bs, bs = w5.heap.size := ⟨_, rfl⟩
  rw [← hbs] at gs gu hz5 ⊢
  obtain ⟨bu, hbu⟩ : ∃ bu, bu = bs + 1 := ⟨_, rfl⟩
  rw [← hbu] at gu ⊢
  have HOrd := Lib.hid (show AOrd bm bs p bu mb cb from ⟨hpc, hcm, hmz, hz5, by omega⟩)
  have hA6 : AhD W bm bs p bu mb cb B S 618 T L 602 key 618 0 w6 := by
    obtain ⟨k1, k2, k3, k4, k5⟩ := H5.out
    exact ⟨⟨fun _ => 0, fun _ => none, _, 0, ⟨(hb6.block _ (lt_of_heap k5)).trans k5, gs, (hb6.block _ (lt_of_heap k1)).trans k1, gu⟩, k4.below hb6, by omega, by omega⟩, (hb6.block _ (lt_of_heap k2)).trans k2, low_more k3 hb6⟩
  have HA := Lib.hid hA6
  clear hw6 hb6 gs gu hbs hbu hA6 H5 cq5 cm5 c5 hmz hz5
  go_wp2_with fail
  go_loopw [58] (fun iv wr => ∃ i : Nat, i ≤ n1 ∧ iv = .int .i64 i ∧ AhD W bm bs p bu mb cb B S 618 T L 602 key 618 (min i 20) wr) (fun iv _ => n1 - (intOf iv).toNat)
  case atStart => exact ⟨0, by omega, rfl, HA.out⟩
  case round =>
    clear HA
    obtain ⟨i, hi, rfl, hA⟩ := hrel
    have HA := Lib.hid hA
    clear hA
    by_cases hlt : i < n1
    · have hlt1 : (i : Int) < (n1 : Int) := by omega
      obtain ⟨x, hx⟩ : ∃ x, F1[i]? = some x := ⟨_, List.getElem?_eq_getElem (by rw [HE1.out.1]; exact hlt)⟩
      obtain ⟨g, o, rfl, hcell⟩ := (HE1.out.2.1.below HA.out.low) i x hx
      have hxs := HE1.out.2.2 x (List.mem_of_getElem? hx)
      clear hx
      by_cases h20 : i < 20
      · have h20b : (i : Int) < 20 := by omega
        have hmin : min i 20 = i := by omega
        have hA2 := HA.out
        rw [hmin] at hA2
        have HC := Lib.hid (hA2.add HK.out HDP.out HOrd.out hz1 h20 x hxs)
        clear hA2 hmin
        go_wp2_with fail
        refine HC.out.mono ?_
        clear HC
        rintro e w7 ⟨rfl, hA⟩
        have HA := Lib.hid hA
        clear hA
        go_wp2_with fail
        go_roundw
        case rel => exact ⟨i + 1, by omega, by go_num, by rw [show min (i + 1) 20 = i + 1 by omega]; exact HA.out⟩
        case measure => simp [intOf]; omega
      · have h20b : ¬ (i : Int) < 20 := by omega
        go_wp2_with fail
        go_roundw
        case rel => exact ⟨i + 1, by omega, by go_num, by rw [show min (i + 1) 20 = min i 20 by omega]; exact HA.out⟩
        case measure => simp [intOf]; omega
    · have hlt1 : ¬ (i : Int) < (n1 : Int) := by omega
      obtain ⟨⟨Us, d0, cs0, N0, hab, hds, _, hN0⟩, hq, hlow⟩ := HA.out
      have cm : wr.cell? ⟨bm, 0, none⟩ = some (.pointer (some ⟨mb, 0, none⟩)) := cell_at hab.m 0
      have cs_ : wr.cell? ⟨bs, 0, none⟩ = some (.int .i64 602) := cell_at hab.s 0
      have cq : wr.cell? ⟨W.heap.size, 0, none⟩ = some (.string key) := cell_at hq 0
      have HFi := Lib.hid (find_at HK.out HDP.out hds (by omega) key HKZ.out.1 (by rw [HKZ.out.2]; omega))
      have H7 := Lib.hid (And.intro hab (And.intro hq (And.intro hlow hN0)))
      clear hab hds hN0 hq hlow HA
      go_wp2_with fail
      refine HFi.out.mono ?_; rintro e w7 ⟨hm7, ⟨was, sl⟩, rfl, hg, hds⟩
      have hwas := hg.spec hds.dict
      have h7 := H7.out
      obtain ⟨o1, o2, o3, o4, o5⟩ := HOrd.out
      have H8 := Lib.hid (And.intro (h7.1.mem HOrd.out hm7) (And.intro ((hm7.block _ (lt_of_heap h7.2.1) (by omega)).trans h7.2.1) (low_mod h7.2.2.1 hm7 (by omega))))
      have hN0 := h7.2.2.2
      have HWas := Lib.hid hwas
      have HDS := Lib.hid (hds.more 6002000 (by omega))
      clear hm7 hg hds hwas h7 H7 HFi cm cs_ cq
      simp only at *
      go_upto_region 16 with fail
      obtain ⟨w8, hw8⟩ : ∃ w8, w8 = w7.alloc (.cells #[.int .i64 0] 3) := ⟨_, rfl⟩
      rw [← hw8]
      have hb8 : Below w7.heap.size w7 w8 := by rw [hw8]; exact below_one
      have gg : w8.heap[w7.heap.size]? = some (.cells #[.int .i64 0] 3 (0, 0)) := by rw [hw8]; exact heap_alloc_new _ _
      have hz7 := lt_of_heap H8.out.1.u
      obtain ⟨bg, hbg⟩ : ∃ bg, bg = w7.heap.size := ⟨_, rfl⟩
      rw [← hbg] at gg hz7 ⊢
      have H9 := Lib.hid (And.intro (H8.out.1.below hb8) (And.intro ((hb8.block _ (lt_of_heap H8.out.2.1)).trans H8.out.2.1) (And.intro (low_more H8.out.2.2 hb8) (And.intro (HDS.out.below hb8) gg))))
      have cm : w8.cell? ⟨bm, 0, none⟩ = some (.pointer (some ⟨mb, 0, none⟩)) := cell_at H9.out.1.m 0
      clear hw8 hb8 gg hbg H8 HDS
      go_wp2_with fail
      refine (new_run _ mb).mono ?_; rintro e w9 ⟨rfl, hr, hb9⟩
      obtain ⟨rb, hrb⟩ : ∃ rb, rb = w8.heap.size := ⟨_, rfl⟩
      rw [← hrb] at hr ⊢
      have hz8 : bg < rb := by rw [hrb]; exact lt_of_heap H9.out.2.2.2.2
      obtain ⟨hab8, hq8, hlow8, ⟨⟨l8, s8, hm8, l80, s80, hls8⟩, hdict8, hcu8, hlen8, hused8⟩, hg8⟩ := H9.out
      have hU9 : UndD findP w9 bm bs p bu W.heap.size bg rb mb cb B S 618 T L 602 key 618 d0 6002000 432 false false w9 := by
        refine ⟨⟨Us, d0, ⟨[], 0, false, false, false, 0, cs0, l8, s8⟩, none, hab8.below hb9, hdict8, hused8, ⟨⟨0, hr⟩, hm8.below hb9, by simp⟩, hcu8, (fun y hy => by cases hy), by show 0 ≤ 6002000; omega, l80, s80, hls8, hlen8.1, Dict.Le.refl d0, (fun g hg => by cases hg), rfl, fun _ a ha => ha, fun _ => ⟨_, At.new _ cs0 l8 s8, HK.out.rely 16 602 (B 4) (B 4 + S 4) 618 (bytesL key) d0 (bytesL_lt key) (by rw [bytesL_length, HKZ.out.2]; omega) (by omega)⟩, fun h => by cases h⟩, ⟨(hb9.block _ (lt_of_heap hab8.s)).trans hab8.s, (hb9.block _ (lt_of_heap hq8)).trans hq8, ⟨0, (hb9.block _ (lt_of_heap hg8)).trans hg8⟩⟩, hlen8.2, Mod.refl _ _⟩
      have hrz : rb < w9.heap.size := lt_of_heap hr.rec_
      have HUO := Lib.hid (show UOrd bm bs p bu W.heap.size bg rb mb cb from ⟨HOrd.out, hz1, hz7, hz8⟩)
      have H0 := Lib.hid (And.intro hdict8 (And.intro (low_more hlow8 hb9) (fun (w : World) (hm : Mod (UZ bs bu W.heap.size bg rb mb cb) w9 w) => low_mod (low_more hlow8 hb9) hm (by
        intro k hk
        unfold UZ at hk
        omega))))
      have HU := Lib.hid hU9
      clear hab8 hq8 hlow8 hm8 l80 s80 hls8 hdict8 hcu8 hlen8 hused8 hg8 hU9 hr hb9 hrb H9 cm hz8 hz7
      go_upto_block 2 with fail
      go_cut [23] (fun lv wx => ∃ N n ov lat, lv = .bool lat ∧ N ≤ 37000000 ∧ n ≤ 432 ∧ UndD findP w9 bm bs p bu W.heap.size bg rb mb cb B S 618 T L 602 key 618 d0 N n ov lat wx)
      case first =>
        go_wp2_with fail
        go_loopw [23, 82] (fun lv iv wr => ∃ (i N n : Nat) (ov lat : Bool), i ≤ n3 ∧ i ≤ 101 ∧ N ≤ 6002000 + 300000 * i ∧ n ≤ 432 ∧ lv = .bool lat ∧ iv = .int .i64 i ∧ UndD findP w9 bm bs p bu W.heap.size bg rb mb cb B S 618 T L 602 key 618 d0 N n ov lat wr) (fun _ iv _ => n3 - (intOf iv).toNat)
        case atStart => exact ⟨0, 6002000, 432, false, false, by omega, by omega, by omega, by omega, rfl, rfl, HU.out⟩
        case round =>
          clear HU
          obtain ⟨i, N, n, ov, lat, hi, hi1, hN, hn, rfl, rfl, hU⟩ := hrel
          have HU := Lib.hid hU
          clear hU
          by_cases hlt : i < n3
          · have hlt1 : (i : Int) < (n3 : Int) := by omega
            have hbr2 : Below W.heap.size W wr := H0.out.2.2 wr HU.out.mod
            obtain ⟨y, hy⟩ : ∃ y, L3[i]? = some y := ⟨_, List.getElem?_eq_getElem (by rw [HE3.out.1]; exact hlt)⟩
            obtain ⟨g3, o3, rfl, hcell⟩ := (HE3.out.2.1.below hbr2) i y hy
            have hy256 := HE3.out.2.2 y (List.mem_of_getElem? hy)
            have HBr := Lib.hid hbr2
            clear hy hbr2
            by_cases h100 : 100 < i
            · have h100' : (100 : Int) < (i : Int) := by omega
              go_wp2_with fail
              go_meet
              exact ⟨N, n, ov, lat, rfl, by omega, hn, HU.out⟩
            · have h100' : ¬ (100 : Int) < (i : Int) := by omega
              obtain ⟨z, hz⟩ : ∃ z, z = y % 2 := ⟨_, rfl⟩
              have z1 : (y : Int) % 2 = (z : Int) := by omega
              have z2 : (y : Int).tmod 2 = (z : Int) := by rw [Int.tmod_eq_emod_of_nonneg (by omega)]; exact z1
              have z3 : IntKind.u8.wrap (z : Int) = (z : Int) := IntWalk.u8_in _ (by omega)
              have HStep := Lib.hid (HU.out.step HK.out HDP.out HUO.out hrz (by omega) HKZ.out.1)
              have HFin := Lib.hid (show ∀ (w' : World) (ov' : Bool), UndD findP w9 bm bs p bu W.heap.size bg rb mb cb B S 618 T L 602 key 618 d0 (N + 1) (n - 1) ov' lat w' → ∃ (i' N' n' : Nat) (ov'' lat' : Bool), i' ≤ n3 ∧ i' ≤ 101 ∧ N' ≤ 6002000 + 300000 * i' ∧ n' ≤ 432 ∧ (Value.bool lat) = .bool lat' ∧ (Value.int .i64 ((i : Int) + 1)) = .int .i64 i' ∧ UndD findP w9 bm bs p bu W.heap.size bg rb mb cb B S 618 T L 602 key 618 d0 N' n' ov'' lat' w' from fun w' ov' h => ⟨i + 1, N + 1, n - 1, ov', lat, by omega, by omega, by omega, by omega, rfl, by go_num, h⟩)
              clear hz
              by_cases hz0 : z = 0
              · subst hz0
                by_cases hi2 : i < n2
                · have hi2b : (i : Int) < (n2 : Int) := by omega
                  obtain ⟨capr, hrun⟩ : ∃ cap go log at_ wi ma off er, RunAt wr rb mb go cap log at_ wi ma off ov er := by
                    obtain ⟨⟨_, _, st, go, _, _, _, hrm, _, _, _, _, _, _, _, _, _, hov, _⟩, _⟩ := HU.out
                    obtain ⟨cap, hr⟩ := hrm.run
                    rw [hov] at hr
                    exact ⟨cap, _, _, _, _, _, _, _, hr⟩
                  obtain ⟨go, log, at_, wi, ma, off, er, hrun⟩ := hrun
                  cases hov : ov with
                  | true =>
                    rw [hov] at hrun
                    have HRun := Lib.hid hrun
                    clear hrun
                    go_wp2_with (go_at_call 16; refine (over_at HRun.out).mono ?_; rintro e w6 ⟨rfl, rfl⟩)
                    refine HStep.out.mono ?_
                    rintro e w10 ⟨ov', rfl, hU, _⟩
                    have HU2 := Lib.hid hU
                    clear hU HStep HRun
                    go_wp2_with fail
                    go_roundw
                    case rel => exact HFin.out _ ov' HU2.out
                    case measure => simp [intOf]; omega
                  | false =>
                    rw [hov] at hrun
                    have HRun := Lib.hid hrun
                    subst hov
                    clear hrun HStep HFin
                    obtain ⟨x, hx⟩ : ∃ x, F2[i]? = some x := ⟨_, List.getElem?_eq_getElem (by rw [HE2.out.1]; exact hi2)⟩
                    obtain ⟨g2, o2, rfl, hcell2⟩ := (HE2.out.2.1.below HBr.out) i x hx
                    have hxs := HE2.out.2.2 x (List.mem_of_getElem? hx)
                    have cq : wr.cell? ⟨W.heap.size, 0, none⟩ = some (.string key) := cell_at HU.out.ui.q 0
                    have HX := Lib.hid hx
                    clear hx
                    go_upto_region 24 with (go_at_call 16; refine (over_at HRun.out).mono ?_; rintro e w6 ⟨rfl, rfl⟩)
                    have HFin := Lib.hid (show ∀ (w' : World) (lat' : Bool), UndD findP w9 bm bs p bu W.heap.size bg rb mb cb B S 618 T L 602 key 618 d0 (N + 300000) n false lat' w' → ∃ (i' N' n' : Nat) (ov'' lat'' : Bool), i' ≤ n3 ∧ i' ≤ 101 ∧ N' ≤ 6002000 + 300000 * i' ∧ n' ≤ 432 ∧ (Value.bool lat') = .bool lat'' ∧ (Value.int .i64 ((i : Int) + 1)) = .int .i64 i' ∧ UndD findP w9 bm bs p bu W.heap.size bg rb mb cb B S 618 T L 602 key 618 d0 N' n' ov'' lat'' w' from fun w' lat' h => ⟨i + 1, N + 300000, n, false, lat', by omega, by omega, by omega, by omega, rfl, by go_num, h⟩)
                    have HAdd := Lib.hid (fun (w' : World) (h : UndD findP w9 bm bs p bu W.heap.size bg rb mb cb B S 618 T L 602 key 618 d0 N n false lat w') (lat' : Bool) (hl : lat' = false → lat = false ∧ x ≠ key) => h.add HK.out HDP.out HUO.out hrz (by omega) x hxs lat' hl)
                    cases lat with
                    | true =>
                      go_quiet (fail)
                      rename Nat => mq
                      go_upto_region 25 with fail
                      obtain ⟨wz, hwz⟩ : ∃ wz, wz = wr.drewN mq := ⟨_, rfl⟩
                      rw [← hwz]
                      have hbz : Below wr.heap.size wr wz := by rw [hwz]; exact below_drawn (Below.refl _ _) _
                      have hcz := below_cell hcell2 hbz
                      have HAz := Lib.hid (HAdd.out wz (HU.out.below hbz) true (fun h => by cases h))
                      clear hwz hbz hcell2 cq HAdd HRun
                      go_wp2_with fail
                      refine HAz.out.mono ?_
                      rintro e w10 ⟨rfl, hU⟩
                      have HU2 := Lib.hid hU
                      clear hU HAz
                      go_wp2_with fail
                      go_roundw
                      case rel => exact HFin.out _ true HU2.out
                      case measure => simp [intOf]; omega
                    | false =>
                      by_cases hxk : x = key
                      · have hxe := str_eq hxk
                        clear hxk
                        go_quiet (fail)
                        rename Nat => mq
                        go_upto_region 25 with fail
                        obtain ⟨wz, hwz⟩ : ∃ wz, wz = wr.drewN mq := ⟨_, rfl⟩
                        rw [← hwz]
                        have hbz : Below wr.heap.size wr wz := by rw [hwz]; exact below_drawn (Below.refl _ _) _
                        have hcz := below_cell hcell2 hbz
                        have HAz := Lib.hid (HAdd.out wz (HU.out.below hbz) true (fun h => by cases h))
                        clear hwz hbz hcell2 cq HAdd HRun
                        go_wp2_with fail
                        refine HAz.out.mono ?_
                        rintro e w10 ⟨rfl, hU⟩
                        have HU2 := Lib.hid hU
                        clear hU HAz
                        go_wp2_with fail
                        go_roundw
                        case rel => exact HFin.out _ true HU2.out
                        case measure => simp [intOf]; omega
                      · have hxe := str_ne hxk
                        have HXK := Lib.hid hxk
                        clear hxk
                        go_quiet (fail)
                        rename Nat => mq
                        go_upto_region 25 with fail
                        obtain ⟨wz, hwz⟩ : ∃ wz, wz = wr.drewN mq := ⟨_, rfl⟩
                        rw [← hwz]
                        have hbz : Below wr.heap.size wr wz := by rw [hwz]; exact below_drawn (Below.refl _ _) _
                        have hcz := below_cell hcell2 hbz
                        have HAz := Lib.hid (HAdd.out wz (HU.out.below hbz) false (fun _ => ⟨rfl, HXK.out⟩))
                        clear hwz hbz hcell2 cq HAdd HRun
                        go_wp2_with fail
                        refine HAz.out.mono ?_
                        rintro e w10 ⟨rfl, hU⟩
                        have HU2 := Lib.hid hU
                        clear hU HAz
                        go_wp2_with fail
                        go_roundw
                        case rel => exact HFin.out _ false HU2.out
                        case measure => simp [intOf]; omega
                · have hi2b : ¬ (i : Int) < (n2 : Int) := by omega
                  go_wp2_with fail
                  refine HStep.out.mono ?_
                  rintro e w10 ⟨ov', rfl, hU, _⟩
                  have HU2 := Lib.hid hU
                  clear hU HStep
                  go_wp2_with fail
                  go_roundw
                  case rel => exact HFin.out _ ov' HU2.out
                  case measure => simp [intOf]; omega
              · have hzb : ((z : Int) == 0) = false := beq_eq_false_iff_ne.2 (by omega)
                clear hz0
                go_wp2_with fail
                refine HStep.out.mono ?_
                rintro e w10 ⟨ov', rfl, hU, _⟩
                have HU2 := Lib.hid hU
                clear hU HStep
                go_wp2_with fail
                go_roundw
                case rel => exact HFin.out _ ov' HU2.out
                case measure => simp [intOf]; omega
          · have hlt1 : ¬ (i : Int) < (n3 : Int) := by omega
            go_wp2_with fail
            go_meet
            exact ⟨N, n, ov, lat, rfl, by omega, hn, HU.out⟩
      case rest =>
        clear HU
        obtain ⟨N1, nb, ov, lat, rfl, hN1, hnb, hU⟩ := hcut
        have HU0 := Lib.hid hU
        clear hU
        go_upto_block 4 with fail
        go_cut [] (fun wx => ∃ N n, N ≤ 37010000 ∧ UndD findP w9 bm bs p bu W.heap.size bg rb mb cb B S 618 T L 602 key 618 d0 N n true lat wx)
        case first =>
          go_wp2_with fail
          go_loopw [122] (fun iv wr => ∃ (i n : Nat) (ov : Bool), iv = .int .i64 i ∧ (i + n ≤ 432 ∨ i = 0 ∧ n ≤ 432) ∧ UndD findP w9 bm bs p bu W.heap.size bg rb mb cb B S 618 T L 602 key 618 d0 (N1 + i) n ov lat wr) (fun iv _ => 3000 - (intOf iv).toNat)
          case atStart => exact ⟨0, nb, ov, rfl, .inr ⟨rfl, hnb⟩, HU0.out⟩
          case round =>
            clear HU0
            obtain ⟨i, n, ov, rfl, hin, hU⟩ := hrel
            have hi432 : i ≤ 432 := by omega
            have hi3 : (i : Int) < 3000 := by omega
            have HC := Lib.hid (hU.step HK.out HDP.out HUO.out hrz (by omega) HKZ.out.1)
            have HIN := Lib.hid hin
            clear hU hin
            go_wp2_with fail
            refine HC.out.mono ?_
            clear HC
            rintro e w10 ⟨ov', rfl, hU, hdone⟩
            have HU := Lib.hid hU
            clear hU
            cases ov' with
            | true =>
              clear hdone
              go_wp2_with fail
              go_meet
              exact ⟨_, _, by omega, HU.out⟩
            | false =>
              have hn0 : 0 < n := hdone.resolve_left (by simp)
              clear hdone
              go_wp2_with fail
              go_roundw
              case rel => exact ⟨i + 1, n - 1, false, by go_num, .inl (by have := HIN.out; omega), HU.out⟩
              case measure => simp [intOf]; omega
        case rest =>
          clear HU0
          obtain ⟨N2, n2', hN2, hU⟩ := hcut
          have hlow := H0.out.2.2 _ hU.mod
          obtain ⟨⟨Us2, d2, st, go, hab, hd, hus, hrm, hcu, hlu, hlog, hl0, hs0, hls, hcl, hle, hgo, hov, hhas, _, hend⟩, hui, hc0, hmod⟩ := hU
          obtain ⟨⟨g1, g2⟩, hQ, hfd⟩ := hend rfl
          obtain ⟨capr, hrun⟩ := hrm.run
          rw [hov] at hrun
          have hspec := hfd.spec H0.out.1 hd
          simp only at hspec
          have hds : DS 16 602 B S Us2 618 mb cb d2 st.cs N2 _ := ⟨⟨st.l, st.s, hrm.mem, hl0, hs0, hls⟩, hd, hcu, ⟨hcl, hc0⟩, hus⟩
          have cm : wc.cell? ⟨bm, 0, none⟩ = some (.pointer (some ⟨mb, 0, none⟩)) := cell_at hab.m 0
          have cs_ : wc.cell? ⟨bs, 0, none⟩ = some (.int .i64 602) := cell_at hab.s 0
          have cq : wc.cell? ⟨W.heap.size, 0, none⟩ = some (.string key) := cell_at hui.q 0
          have HFi := Lib.hid (find_at HK.out HDP.out hds (by omega) key HKZ.out.1 (by rw [HKZ.out.2]; omega))
          have HGo := Lib.hid (fun (k : Nat) (hk : go = some k) => (show mb < k ∧ cb < k by have := hgo k hk; obtain ⟨⟨o1, o2, o3, o4, o5⟩, o6, o7, o8⟩ := HUO.out; omega))
          have HEnd := Lib.hid (And.intro hQ.a (And.intro hrun (And.intro hlow (And.intro hspec (And.intro hhas hle)))))
          clear hQ hrun hlow hspec hhas hds hab hd hus hrm hcu hlu hlog hl0 hs0 hls hcl hle hgo hov hend hui hc0 hmod hfd
          go_wp2_with fail
          refine HFi.out.mono ?_; rintro e w12 ⟨hm12, ⟨now, sl2⟩, rfl, hg, hds⟩
          have hnow := hg.spec hds.dict
          simp only at hnow
          obtain ⟨hQa, hrun, hlow, hspec, hhas, hle⟩ := HEnd.out
          obtain ⟨⟨o1, o2, o3, o4, o5⟩, o6, o7, o8⟩ := HUO.out
          have hga := (hm12.block bg (lt_of_heap hQa) (by omega)).trans hQa
          have cg : w12.cell? ⟨bg, 0, none⟩ = some (.int .i64 g1) := cell_at hga 0
          have HRun := Lib.hid (hrun.mod hm12 (by
            rintro k (hk | hk)
            · subst hk; omega
            · have := HGo.out k hk; omega))
          have HLow := Lib.hid (low_mod hlow hm12 (by omega))
          have hwas := HWas.out
          have uniq : ∀ a b, Has d2 (bytesL key) a → Has d2 (bytesL key) b → a = b := fun a b h1 h2 => hds.dict.has_eq h1 h2
          have HC := Lib.hid (show (was ≠ 0 ∧ g1 = was ∧ g1 ≠ 0 ∧ g1 = now) ∨ (was = 0 ∧ lat = true ∧ g1 ≠ 0 ∧ g1 = now) ∨ (was = 0 ∧ g1 = 0) by
            rcases hwas with ⟨w1', w2'⟩ | ⟨w1', w2'⟩
            · rcases hspec with ⟨q1, q2⟩ | ⟨q1, q2⟩
              · rcases hnow with ⟨r1, r2⟩ | ⟨r1, r2⟩
                · exact .inl ⟨w2', uniq _ _ q1 (w1'.le hle), q2, uniq _ _ q1 r1⟩
                · exact absurd q1 (r2 _)
              · exact absurd w1' (q2 _)
            · rcases hspec with ⟨q1, q2⟩ | ⟨q1, q2⟩
              · rcases hnow with ⟨r1, r2⟩ | ⟨r1, r2⟩
                · cases hl : lat with
                  | false => exact absurd (hhas hl _ q1) (w2' _)
                  | true => exact .inr (.inl ⟨w1', rfl, q2, uniq _ _ q1 r1⟩)
                · exact absurd q1 (r2 _)
              · exact .inr (.inr ⟨w1', q1⟩))
          clear hm12 hg hds hnow hQa hrun hlow hspec hhas hle hga hwas uniq HFi cm cs_ cq HEnd
          rcases HC.out with ⟨e1, e2, e3, e4⟩ | ⟨e1, e2, e3, e4⟩ | ⟨e1, e2⟩
          · have b1 : (was == 0) = false := by simpa using e1
            have b2 : (was != 0) = true := by simpa using e1
            subst e2
            have b3 : (g1 == now) = true := by simpa using e4
            go_wp2_with (go_at_call 16; refine (over_at HRun.out).mono ?_; rintro e w13 ⟨rfl, rfl⟩)
            go_ret
            exact ⟨rfl, HLow.out⟩
          · have b1 : (g1 == 0) = false := by simpa using e3
            have b3 : (g1 == now) = true := by simpa using e4
            subst e1 e2
            go_wp2_with (go_at_call 16; refine (over_at HRun.out).mono ?_; rintro e w13 ⟨rfl, rfl⟩)
            go_ret
            exact ⟨rfl, HLow.out⟩
          · subst e1 e2
            cases lat with
            | true =>
              go_wp2_with (go_at_call 16; refine (over_at HRun.out).mono ?_; rintro e w13 ⟨rfl, rfl⟩)
              go_ret
              exact ⟨rfl, HLow.out⟩
            | false =>
              go_wp2_with (go_at_call 16; refine (over_at HRun.out).mono ?_; rintro e w13 ⟨rfl, rfl⟩)
              go_ret
              exact ⟨rfl, HLow.out⟩
end Go.Proofs.Yteliaammffmmiaa
