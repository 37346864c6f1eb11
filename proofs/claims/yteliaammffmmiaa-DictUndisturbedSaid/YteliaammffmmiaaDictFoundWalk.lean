/-
  The law DictFound's walk. Over the program's own text.
-/
import Derived.Test.YteliaammffmmiaaDictMap
import Derived.Deep.CutBlock
namespace Go.Proofs.Yteliaammffmmiaa
open Go.RowKit Go.Maps

theorem str_eq2 {x s : ByteArray} (h : x = s) : (x.toList == s.toList) = true := by rw [h]; simp
set_option maxRecDepth 100000 in
set_option maxHeartbeats 3000000 in
theorem found_walk {findP : Int → Int → List Nat → Pr (Int × Int)} (K : KeptDict findP) (W : World) (oa : Option Addr) (nn c : Nat) (F1 : List ByteArray) (key : ByteArray) (e1 : F1.length = nn) (hF1 : ReadS W oa F1) (x1 : ∀ x ∈ F1, x.size ≤ reachBytes) (m1 : nn ≤ maxLen) (hks : key.size ≤ reachBytes) :
    Calls Try.prog 3 #[.slice oa nn c, .string key] W fun e w' => e = .returned (.bool true) ∧ Below W.heap.size W w' := by
  obtain ⟨kl, hkl⟩ : ∃ kl, key.size = kl := ⟨_, rfl⟩
  have HE1 := Lib.hid (And.intro e1 (And.intro hF1 x1))
  have HKZ := Lib.hid (And.intro hks hkl)
  have hkz : (kl : Int) ≤ 9223372036854775807 := by rw [← hkl]; exact reach_int hks
  have s1 : (nn : Int) ≤ 9223372036854775807 := by unfold maxLen at m1; omega
  clear e1 hF1 x1 m1 hks
  have hmm := @run_makeMap Try.prog
  have HK := Lib.hid K
  have HFx := Lib.hid (fun w => fixed_any K w)
  have HPl := Lib.hid (plan_at W 599 (by omega) (by omega))
  obtain ⟨B, hB⟩ : ∃ B, B = dB 599 := ⟨_, rfl⟩
  obtain ⟨S, hS⟩ : ∃ S, S = dS 599 := ⟨_, rfl⟩
  obtain ⟨T, hT⟩ : ∃ T, T = slotsOf 64 := ⟨_, rfl⟩
  obtain ⟨L, hL⟩ : ∃ L, L = liveOf 1 64 := ⟨_, rfl⟩
  have HF : Hid (∀ mb cb p Us d cs N wr, LawD W 599 618 p mb cb Us d cs N wr → wr.heap[p]? = some (.cells (planC B S 618 T L) 25 (0, 0)) ∧ DS 16 602 B S Us 618 mb cb d cs N wr) := Lib.hid (by
    rintro mb cb p Us d cs N wr ⟨h1, h2, _, _⟩
    have v := (d_vals 599).2.1
    rw [v] at h2
    rw [hB, hS, hT, hL]
    exact ⟨h1, h2⟩)
  have HG : Hid (∀ mb cb p Us d cs N Us' d' cs' N' wr w', LawD W 599 618 p mb cb Us d cs N wr → Mod (fun k => k = mb ∨ k = cb) wr w' → DS 16 602 B S Us' 618 mb cb d' cs' N' w' → LawD W 599 618 p mb cb Us' d' cs' N' w') := Lib.hid (by
    intro mb cb p Us d cs N Us' d' cs' N' wr w' h hm hd
    refine h.turn hm ?_
    have v := (d_vals 599).2.1
    rw [v, ← hB, ← hS]
    exact hd)
  have HV := Lib.hid (show B 4 = 3 ∧ B 5 = 602 ∧ S 4 = 599 by have := d_vals 599; rw [hB, hS]; omega)
  have HDP := Lib.hid (show DP 16 602 B S by
    have := d_dp (bk := 599) (by omega) (by omega) 16 (by omega)
    rw [(d_vals 599).2.1] at this
    rw [hB, hS]
    exact this)
  have HBS := Lib.hid (And.intro hB (And.intro hS (And.intro hT hL)))
  rw [← hB, ← hS, ← hT, ← hL, show (19 : Int) + 599 = 618 from rfl] at HPl
  clear K hB hS hT hL
  go_enter Try.func3, Try.ntmps3
  go_wp2_with fail
  refine HPl.out.mono ?_; rintro e w1 ⟨rfl, hb1⟩
  have hz1 := hb1.size
  go_upto_region 2 with (first
    | (refine wpList_store_row rfl 25 (.tmp 5) (.tmp 29) rfl w1.heap.size (planC B S 618 T L) rfl rfl 25 (planC (fun _ => 0) (fun _ => 0) 0 0 0) (heap_alloc_new w1 _) (planC_info _ _ _ _ _) rfl (planC_one _ _ _ _ _) ?_)
    | fail)
  rw [World.setRow_alloc_new]
  obtain ⟨w2, hw2⟩ : ∃ w2, w2 = w1.alloc (.cells (planC B S 618 T L) 25) := ⟨_, rfl⟩
  rw [← hw2]
  have g2 : w2.heap[w1.heap.size]? = some (.cells (planC B S 618 T L) 25 (0, 0)) := by rw [hw2]; exact heap_alloc_new _ _
  have hB : Below W.heap.size W w2 := by rw [hw2]; exact hb1.alloc hb1.size _
  obtain ⟨p, hp⟩ : ∃ p, p = w1.heap.size := ⟨_, rfl⟩
  rw [← hp] at g2 hz1 ⊢
  have c12 : w2.cell? ⟨p, 12, none⟩ = some (.int .i64 618) := cell_at g2 12
  have H2 := Lib.hid g2
  have HB := Lib.hid hB
  clear hw2 hp hb1 g2 hB HPl
  go_wp2_with fail
  refine (new_ok w2 618 (by omega) (by omega)).mono ?_; rintro e w3 ⟨rfl, hm, hb⟩
  have h3 := (hb.block p (lt_of_heap H2.out)).trans H2.out
  have hB3 := HB.out.trans (hb.mono HB.out.size)
  have hmz : w2.heap.size + 1 < w3.heap.size := lt_of_heap hm.rec_
  have hpc := lt_of_heap H2.out
  obtain ⟨cb, hcb⟩ : ∃ cb, cb = w2.heap.size := ⟨_, rfl⟩
  rw [← hcb] at hm hmz hpc ⊢
  obtain ⟨mb, hmb⟩ : ∃ mb, mb = cb + 1 := ⟨_, rfl⟩
  rw [← hmb] at hm hmz ⊢
  have hds : LawD W 599 618 p mb cb (fun _ => 0) (fun _ => none) (List.replicate 618 0) 0 w3 := ⟨by rw [HBS.out.1, HBS.out.2.1, HBS.out.2.2.1, HBS.out.2.2.2] at h3; exact h3, DS.new (by omega) (by omega) (by omega) (by omega) hm, hB3, ⟨hz1, hpc, by omega⟩⟩
  have HD := Lib.hid hds
  have hcm : cb < mb := by omega
  clear hb h3 hm hcb c12 H2 HB hB3 hds hmz hmb
  go_wp2_with fail
  refine (HFx.out _).mono ?_; rintro e w4 ⟨rfl, hb⟩
  have HD := Lib.hid (HD.out.below hb)
  clear hb
  rcases Nat.lt_or_ge 100 kl with hlen | hlen
  · have hl1 : (100 : Int) < (kl : Int) := by omega
    go_wp2_with fail
    refine (HFx.out _).mono ?_; rintro e w5 ⟨rfl, hb⟩
    have HD := Lib.hid (HD.out.below hb)
    clear hb
    go_wp2_with fail
    go_ret
    exact ⟨rfl, HD.out.low⟩
  have hl1 : ¬ (100 : Int) < (kl : Int) := by omega
  have c5 : w4.cell? ⟨p, 5, none⟩ = some (.int .i64 602) := by rw [← HV.out.2.1]; exact cell_at (HF.out _ _ _ _ _ _ _ _ HD.out).1 5
  have HP5 := Lib.hid (HF.out _ _ _ _ _ _ _ _ HD.out).1
  go_upto_region 8 with fail
  obtain ⟨w5, hw5⟩ : ∃ w5, w5 = (w4.alloc (.cells (six fun _ => 0) 23)).alloc (.map #[] 0) := ⟨_, rfl⟩
  rw [show (w4.alloc (.cells #[.int .i64 0, .int .i64 0, .int .i64 0, .int .i64 0, .int .i64 0, .int .i64 0] 23)).alloc (.map #[] 0) = w5 from hw5.symm]
  have hb5 : Below w4.heap.size w4 w5 := by rw [hw5]; exact below_al2
  have gu : w5.heap[w4.heap.size]? = some (.cells (six fun _ => 0) 23 (0, 0)) := by rw [hw5]; exact heap2_0 _ _ _
  have gm : StrMap w5 (w4.heap.size + 1) 0 (.map []) := by
    have := World.ownsMap_made (w4.alloc (.cells (six fun _ => 0) 23)) Try.prog 9 (plainElem (H := Unit) Try.prog 3)
    rw [hw5]
    simpa [StrMap] using this
  have hz4 := HD.out.lt.2.2
  obtain ⟨bu, hbu⟩ : ∃ bu, bu = w4.heap.size := ⟨_, rfl⟩
  rw [← hbu] at gu gm hz4 ⊢
  obtain ⟨m, hmb⟩ : ∃ m, m = bu + 1 := ⟨_, rfl⟩
  rw [← hmb] at gm ⊢
  have HR0 := Lib.hid (show FndRel W p mb cb bu m 0 (fun _ => 0) (fun _ => none) (List.replicate 618 0) 0 (.map []) w5 from ⟨HD.out.below hb5, gu, gm, MapD.new, ⟨by omega, by omega⟩, ⟨hz4, by omega⟩⟩)
  clear hw5 hb5 gu gm hbu hmb HD HP5 c5 hmm hz4
  go_upto_block 0 with fail
  go_cut [] (fun wx => ∃ i Us d cs N D, FndRel W p mb cb bu m i Us d cs N D wx)
  case first =>
    go_wp2_with fail
    go_loopw [58] (fun iv wr => ∃ i Us d cs N D, i ≤ nn ∧ iv = .int .i64 (i : Nat) ∧ FndRel W p mb cb bu m i Us d cs N D wr) (fun iv _ => nn - (intOf iv).toNat)
    case atStart => exact ⟨0, _, _, _, 0, _, by omega, rfl, HR0.out⟩
    case round =>
      clear HR0
      obtain ⟨i, Us, d, cs, N, D, hi, rfl, hR⟩ := hrel
      have hi31 := hR.cnt.2
      have hN31 := hR.cnt.1
      obtain ⟨hmu, hum⟩ := hR.ord
      have HR := Lib.hid hR
      clear hR
      by_cases hlt : i < nn
      · have hlt1 : (i : Int) < (nn : Int) := by omega
        obtain ⟨x, hx⟩ : ∃ x, F1[i]? = some x := ⟨_, List.getElem?_eq_getElem (by rw [HE1.out.1]; exact hlt)⟩
        obtain ⟨gq, oq, rfl, hcell⟩ := (HE1.out.2.1.below HR.out.law.low) i x hx
        have hxs := HE1.out.2.2 x (List.mem_of_getElem? hx)
        obtain ⟨xl, hxl⟩ : ∃ xl, x.size = xl := ⟨_, rfl⟩
        have HXL := Lib.hid (And.intro hxl hxs)
        clear hx hxs
        by_cases h30 : 30 < i
        · have h30b : (30 : Int) < (i : Int) := by omega
          go_wp2_with fail
          go_meet
          exact ⟨i, Us, d, cs, N, D, HR.out⟩
        have h30b : ¬ (30 : Int) < (i : Int) := by omega
        by_cases h100 : 100 < xl
        · have h100b : (100 : Int) < (xl : Int) := by omega
          go_wp2_with fail
          go_meet
          exact ⟨i, Us, d, cs, N, D, HR.out⟩
        have h100b : ¬ (100 : Int) < (xl : Int) := by omega
        have hds0 : DS 16 602 B S Us 618 mb cb d cs N wr := (HF.out _ _ _ _ _ _ _ _ HR.out.law).2
        have HFi := Lib.hid (find_at HK.out HDP.out hds0 (by omega) x HXL.out.2 (by rw [HXL.out.1]; omega))
        clear hds0
        go_wp2_with fail
        refine HFi.out.mono ?_; rintro e w6 ⟨hm6, ⟨y1, y2⟩, rfl, hg, hds⟩
        have hspec := hg.spec hds.dict
        have hsame : ∀ c, D.atKey (keyL x) (.lit (.int .i64 0)) = .lit (.int .i64 c) → (y1 != c) = false := fun c hc => by
          have := HR.out.rel.same hds.dict hspec hc
          simp only at this
          simp [this]
        have hds2 := hds
        rw [HBS.out.1, HBS.out.2.1] at hds
        have HR1 := Lib.hid ((HR.out.next (by omega)).turn hm6 hds (by omega))
        obtain ⟨o1, o2, o3⟩ := HR.out.law.old
        have HMapI := Lib.hid (HR.out.map.block (hm6.block m HR.out.map.lt (by omega)))
        have HSame := Lib.hid hsame
        have HG2 := Lib.hid hg
        have HDS := Lib.hid hds2
        have HMap := Lib.hid HR1.out.map
        have HKey := Lib.hid (key_of (reach_max HXL.out.2))
        clear hm6 hg hds hds2 hsame hspec HFi HR
        rcases (show y1 ≠ 0 ∨ y1 = 0 by omega) with h1 | h1
        · have h1b : (y1 != 0) = true := by simpa using h1
          clear h1
          go_wp2_with (first
            | (at_lookup; refine wpList_lookup_own_int _ rfl _ _ 33 rfl 9 3 .i64 lawS Try.underlying33 Try.underlying3 (zeroI _) m (i + 1) D rfl HMap.out _ _ rfl HKey.out ?_; intro c hat hwc; have hcx := HSame.out c hat; clear hat hwc)
            | fail)
          go_roundw
          case rel => exact ⟨i + 1, Us, d, cs, _, D, by omega, by go_num, HR1.out⟩
          case measure => simp [intOf]; omega
        subst h1
        rcases Int.lt_or_le y2 0 with h2 | h2
        · have h2b : y2 < 0 := h2
          go_wp2_with (first
            | (at_lookup; refine wpList_lookup_own_int _ rfl _ _ 33 rfl 9 3 .i64 lawS Try.underlying33 Try.underlying3 (zeroI _) m (i + 1) D rfl HMap.out _ _ rfl HKey.out ?_; intro c hat hwc; have hcx := HSame.out c hat; clear hat hwc)
            | fail)
          go_roundw
          case rel => exact ⟨i + 1, Us, d, cs, _, D, by omega, by go_num, HR1.out⟩
          case measure => simp [intOf]; omega
        have h2b : ¬ y2 < 0 := by omega
        have HPut := Lib.hid (put_at HK.out (Z := 618) (T := T) (L := L) HDP.out HDS.out (by omega) x (by rw [HXL.out.1]; omega) HG2.out rfl h2)
        have HP6 := Lib.hid (show w6.heap[p]? = some (.cells (planC B S 618 T L) 25 (0, 0)) from (HF.out _ _ _ _ _ _ _ _ HR1.out.law).1)
        have HU6 := Lib.hid HR1.out.u
        go_wp2_with (first
          | (at_lookup; refine wpList_lookup_own_int _ rfl _ _ 33 rfl 9 3 .i64 lawS Try.underlying33 Try.underlying3 (zeroI _) m (i + 1) D rfl HMap.out _ _ rfl HKey.out ?_; intro c hat hwc; have hcx := HSame.out c hat; clear hat hwc)
          | (refine wpList_load_row rfl 25 (.tmp 5) rfl p rfl 25 (planC B S 618 T L) (0, 0) _ HP6.out Try.underlying25 rfl (planC_info _ _ _ _ _) ?_)
          | (refine wpList_load_row rfl 23 (.tmp 9) rfl bu rfl 23 (six Us) (0, 0) _ HU6.out Try.underlying23 rfl (six_info _) ?_)
          | fail)
        refine HPut.out.mono ?_
        clear HP6 HU6 HPut HMap HSame HG2 HDS
        rintro e w7 ⟨hm7, ⟨_, he, hds⟩ | ⟨Us', cs', j, he, hUs, hjx, hdi, hds, hle⟩⟩
        · obtain ⟨V, hV⟩ : ∃ V, e = .returned (.tuple #[.int .i64 0, .agg (six V), .int .i64 3]) := ⟨_, he⟩
          clear he
          subst hV
          rw [HBS.out.1, HBS.out.2.1] at hds
          have HR2 := Lib.hid (HR1.out.turn hm7 hds (by omega))
          clear hm7 hds HR1
          go_upto_region 17 with (first
            | (refine wpList_store_row rfl 23 (.tmp 17) (.tmp 98) rfl w7.heap.size (six V) rfl rfl 23 (six fun _ => 0) (heap_alloc_new w7 _) (six_info _) rfl (six_one _) ?_)
            | fail)
          rw [World.setRow_alloc_new]
          have HR3 := Lib.hid (HR2.out.below (below_one (A := .cells (six V) 23)))
          generalize w7.alloc (.cells (six V) 23) = w8 at HR3 ⊢
          clear HR2
          go_wp2_with fail
          go_roundw
          case rel => exact ⟨i + 1, Us, d, cs, _, D, by omega, by go_num, HR3.out⟩
          case measure => simp [intOf]; omega
        · obtain ⟨a, ha⟩ : ∃ a, a = B 4 + Us 4 := ⟨_, rfl⟩
          rw [← ha] at he hds hle
          have hused := (HF.out _ _ _ _ _ _ _ _ HR1.out.law).2.used 4 (by omega)
          have ha0 : 0 ≤ a ∧ a ≤ 2000000 := by have := HV.out.1; omega
          have hds2 := hds
          rw [HBS.out.1, HBS.out.2.1] at hds2
          have hlaw7 := HR1.out.law.turn hm7 (by rw [(d_vals 599).2.1]; exact hds2)
          have hu7 := (hm7.block bu (lt_of_heap HR1.out.u) (by omega)).trans HR1.out.u
          have hmap7 := HMapI.out.block (hm7.block m HMapI.out.lt (by omega))
          have HRel := Lib.hid (HR1.out.rel.put (World.ownsMap.isMap HR1.out.map) hle)
          have HWf := Lib.hid (wf_i64 (x := a) (by omega) (by omega))
          have H7 := Lib.hid (And.intro hlaw7 (And.intro hu7 hmap7))
          clear hm7 hds hds2 hlaw7 hu7 hmap7 hle hUs hjx hdi hused ha HR1
          subst he
          obtain ⟨d', hd'⟩ : ∃ d', d' = d.put j (a, bytesL x) := ⟨_, rfl⟩
          rw [← hd'] at HRel H7
          clear hd'
          go_upto_region 17 with (first
            | (refine wpList_store_row rfl 23 (.tmp 17) (.tmp 98) rfl w7.heap.size (six Us') rfl rfl 23 (six fun _ => 0) (heap_alloc_new w7 _) (six_info _) rfl (six_one _) ?_)
            | fail)
          rw [World.setRow_alloc_new]
          have hb8 := below_one (w := w7) (A := .cells (six Us') 23)
          have h17 := heap_alloc_new w7 (.cells (six Us') 23)
          have h8 := And.intro (H7.out.1.below hb8) (And.intro ((hb8.block _ (lt_of_heap H7.out.2.1)).trans H7.out.2.1) (H7.out.2.2.below hb8))
          have hz7 : bu < w7.heap.size ∧ m < w7.heap.size := ⟨lt_of_heap H7.out.2.1, H7.out.2.2.lt⟩
          obtain ⟨b17, hb17⟩ : ∃ b17, b17 = w7.heap.size := ⟨_, rfl⟩
          rw [← hb17] at h17 hz7 ⊢
          generalize w7.alloc (.cells (six Us') 23) = w8 at h17 h8 ⊢
          clear hb8 H7 hb17
          obtain ⟨hlaw8, hu8, hmap8⟩ := h8
          have hms : Mod (fun k => k = bu) w8 (w8.setRow bu (six Us')) := (Mod.refl (fun k => k = bu) w8).setRow (.inr rfl) _
          have H9 := Lib.hid (And.intro (hlaw8.mod hms (by omega)) (And.intro (setRow_heap _ _ _ (six Us') _ _ hu8) (hmap8.block (hms.block m hmap8.lt (by omega)))))
          have H17 := Lib.hid h17
          have HU8 := Lib.hid hu8
          clear hlaw8 hu8 hmap8 hms h17
          go_wp2_with (first
            | (refine wpList_load_row rfl 23 (.tmp 17) rfl b17 rfl 23 (six Us') (0, 0) _ H17.out Try.underlying23 rfl (six_info _) ?_)
            | (refine wpList_store_row rfl 23 (.tmp 9) (.tmp 104) rfl bu (six Us') rfl rfl 23 (six Us) HU8.out (six_info _) (six_both _ _) (six_one _) ?_)
            | (at_mapUpdate; refine wpList_mapUpdate_own _ rfl _ _ _ 33 rfl 9 3 lawS Try.underlying33 _ m i D rfl H9.out.2.2 (by unfold maxLen; omega) _ _ _ rfl rfl HKey.out _ [] (plainElem_int Try.underlying3 HWf.out) ?_; intro w9 hown9 hg9; go_frame)
            | fail)
          have hm9 := mod_grown hg9
          have HR9 := Lib.hid (show FndRel W p mb cb bu m (i + 1) Us' d' cs' (N + 2000 + 200) (D.put (keyL x) (.lit (.int .i64 a))) w9 from ⟨H9.out.1.mod hm9 (by intro k hk; cases hk; omega), (hm9.block bu (lt_of_heap H9.out.2.1) (by intro e; cases e; omega)).trans H9.out.2.1, hown9, HRel.out, ⟨by omega, by omega⟩, ⟨hmu, hum⟩⟩)
          clear hown9 hg9 hm9 H9 H17 HU8
          go_wp2_with fail
          go_roundw
          case rel => exact ⟨i + 1, Us', d', cs', _, _, by omega, by go_num, HR9.out⟩
          case measure => simp [intOf]; omega
      · have hlt1 : ¬ (i : Int) < (nn : Int) := by omega
        go_wp2_with fail
        go_meet
        exact ⟨i, Us, d, cs, N, D, HR.out⟩
  case rest =>
    clear HR0
    obtain ⟨i, Us, d, cs, N, D, hR⟩ := hcut
    have hi31 := hR.cnt.2
    have hN31 := hR.cnt.1
    obtain ⟨hmu, hum⟩ := hR.ord
    obtain ⟨o1, o2, o3⟩ := hR.law.old
    have HR := Lib.hid hR
    have HMap := Lib.hid hR.map
    clear hR
    go_wp2_with (first
      | (at_range; refine wpList_range_own _ rfl _ 33 rfl 9 3 lawS Try.underlying33 _ m i D rfl HMap.out ?_; intro w0 hrg0 hg0 hs0)
      | fail)
    go_frame
    have hmr : m < wc.heap.size := HMap.out.lt
    obtain ⟨r, hr⟩ : ∃ r, r = wc.heap.size := ⟨_, rfl⟩
    rw [← hr] at hrg0 hs0 hmr ⊢
    have HI0 := Lib.hid (show IterAt w0 m r i D (Maps.has D) (Maps.size D) from hrg0)
    have HL0 := Lib.hid (HR.out.law.mod (mod_grown hg0) (by intro k hk; cases hk))
    have HRel := Lib.hid HR.out.rel
    clear hrg0 hg0 hs0 hr HMap HR
    go_loopw [19] (fun _ wr => ∃ (left : Lit → Bool) (cnt N' : Nat), IterAt wr m r i D left cnt ∧ (∀ kl, left kl = true → Maps.has D kl = true) ∧ LawD W 599 618 p mb cb Us d cs N' wr ∧ N' + 2300 * cnt ≤ 150000) (fun _ wr => wr.rangeLeft m r)
    case atStart => exact ⟨_, _, N, HI0.out, fun _ h => h, HL0.out, by have := HI0.out.few; omega⟩
    case round =>
      clear HI0 HL0
      obtain ⟨left, cnt, N', hI, hleft, hL, hN'⟩ := hrel
      have HI := Lib.hid hI
      have HL := Lib.hid hL
      have HLeft := Lib.hid hleft
      clear hI hleft hL
      go_wp2_with (first
        | (at_next; refine wpList_next_ranges _ rfl _ rfl 9 lawS (plainElem (H := Unit) Try.prog 3) Value.string (Value.int .i64) (fun key kl h => by obtain ⟨x, rfl, _⟩ := key_inv h; exact ⟨x, rfl⟩) (fun v y hv => by obtain ⟨c, rfl, _⟩ := plainElem_int_inv Try.underlying3 hv; exact ⟨c, rfl⟩) m r i D left cnt rfl HI.out ?_ ?_)
        | fail)
      · intro _ _
        have HFi := Lib.hid (find_at HK.out HDP.out (HF.out _ _ _ _ _ _ _ _ HL.out).2 (by omega) key HKZ.out.1 (by rw [HKZ.out.2]; omega))
        go_wp2_with fail
        refine HFi.out.mono ?_; rintro e w6 ⟨hm6, ⟨y1, y2⟩, rfl, hg, hds⟩
        have hspec := hg.spec hds.dict
        have hsame : ∀ c, D.atKey (keyL key) (.lit (.int .i64 0)) = .lit (.int .i64 c) → (y1 == c) = true := fun c hc => by
          have := HRel.out.same hds.dict hspec hc
          simp only at this
          simp [this]
        have HSame := Lib.hid hsame
        have HMap := Lib.hid (HI.out.map.block (hm6.block m HI.out.map.lt (by omega)))
        have HKey := Lib.hid (key_of (reach_max HKZ.out.1))
        have HLow := Lib.hid (low_mem HL.out.low hm6 (by omega) (by omega))
        clear hm6 hg hds hspec hsame HFi
        go_wp2_with (first
          | (at_lookup; refine wpList_lookup_own_int _ rfl _ _ 33 rfl 9 3 .i64 lawS Try.underlying33 Try.underlying3 (zeroI _) m i D rfl HMap.out _ _ rfl HKey.out ?_; intro c hat hwc; have hcx := HSame.out c hat; clear hat hwc)
          | fail)
        go_ret
        exact ⟨rfl, HLow.out⟩
      · intro x c kl y ps w1 cnt1 hkey hlk hval hat hrg1 hlt hg1 hs1 hen
        obtain ⟨x', ex, rfl, hxs⟩ := key_inv hkey
        cases ex
        obtain ⟨c', ec, ey, hwc⟩ := plainElem_int_inv Try.underlying3 hval
        cases ec
        cases ey
        have hm1 := mod_grown hg1
        have hL1 := HL.out.mod hm1 (by intro k hk; cases hk; omega)
        obtain ⟨a, ha⟩ := HRel.out.has x (HLeft.out _ hlk)
        have hds1 := (HF.out _ _ _ _ _ _ _ _ hL1).2
        have hap := hds1.dict.pos ha
        have hxs2 : x.size ≤ reachBytes := by
          obtain ⟨jq, hjq⟩ := ha
          have h100 := (hds1.dict.rec_ _ _ _ hjq).2.2.2.2
          rw [bytesL_length] at h100
          exact small_reach (by omega)
        have hxs4 : x.size < 4294967296 := by
          obtain ⟨jq, hjq⟩ := ha
          have h100 := (hds1.dict.rec_ _ _ _ hjq).2.2.2.2
          rw [bytesL_length] at h100
          omega
        have hac := HRel.out.same hds1.dict (.inl ⟨ha, by omega⟩) (hat _)
        subst hac
        have hI1 : IterAt w1 m r i D (fun z => left z && !z.sameKey (keyL x)) cnt1 := hrg1
        have HLf := Lib.hid (show ∀ kl, (left kl && !kl.sameKey (keyL x)) = true → Maps.has D kl = true from fun kl h => HLeft.out kl (by simp at h; exact h.1))
        have HI1 := Lib.hid hI1
        have HL1 := Lib.hid hL1
        have HFi := Lib.hid (find_at HK.out HDP.out hds1 (by omega) x hxs2 hxs4)
        have HA := Lib.hid ha
        have HXS := Lib.hid hxs
        obtain ⟨xl, hxl⟩ : ∃ xl, x.size = xl := ⟨_, rfl⟩
        have HXL := Lib.hid hxl
        have ha0 : (a != 0) = true := by have : a ≠ 0 := by omega
                                         simpa using this
        clear hkey hlk hval hat hrg1 hg1 hs1 hwc hm1 hL1 hds1 ha hap hI1 hxs hxs2 HLeft
        go_wp2_with fail
        refine HFi.out.mono ?_; rintro e w6 ⟨hm6, ⟨y1, y2⟩, rfl, hg, hds⟩
        have hspec := hg.spec hds.dict
        obtain rfl : y1 = a := by
          rcases hspec with ⟨h1, _⟩ | ⟨_, h1⟩
          · exact hds.dict.has_eq h1 HA.out
          · exact absurd HA.out (h1 _)
        have hds2 := hds
        rw [HBS.out.1, HBS.out.2.1] at hds2
        have HL2 := Lib.hid (HL1.out.turn hm6 (by rw [(d_vals 599).2.1]; exact hds2))
        have HI2 := Lib.hid (HI1.out.blocks (hm6.block m HI1.out.map.lt (by omega)) (hm6.block r (World.ranges.lt HI1.out) (by omega)))
        have HRd := Lib.hid (read_at HK.out HDP.out hds (by omega) HA.out)
        clear hm6 hg hds hds2 hspec HFi HI1 HL1 hen
        go_wp2_with fail
        refine HRd.out.mono ?_; rintro e w7 ⟨hm7, he, hds⟩
        rw [HBS.out.1, HBS.out.2.1] at hds
        have HL3 := Lib.hid (HL2.out.turn hm7 (by rw [(d_vals 599).2.1]; exact hds))
        have HI3 := Lib.hid (HI2.out.blocks (hm7.block m HI2.out.map.lt (by omega)) (hm7.block r (World.ranges.lt HI2.out) (by omega)))
        clear hm7 hds HRd HL2 HI2
        rcases Nat.lt_or_ge 17 xl with h17 | h17
        · have he2 : e = .returned (.tuple #[.string ⟨#[]⟩, .bool true]) := by
            rw [he, if_neg (by rw [bytesL_length, HXL.out]; omega)]
            rfl
          subst he2
          have h17b : (17 : Int) < (xl : Int) := by omega
          have h17c : ¬ (xl : Int) ≤ 17 := by omega
          clear he
          go_wp2_with fail
          go_roundw
          case rel => exact ⟨_, cnt1, _, HI3.out, HLf.out, HL3.out, by omega⟩
          case measure => rw [World.ranges.left_eq HI3.out, World.ranges.left_eq HI.out]; exact hlt
        · have he2 : e = .returned (.tuple #[.string x, .bool true]) := by
            rw [he, if_pos (by rw [bytesL_length, HXL.out]; omega), byteText_bytesL]
          subst he2
          have h17b : ¬ (17 : Int) < (xl : Int) := by omega
          have h17c : (xl : Int) ≤ 17 := by omega
          have hxx := str_eq2 (x := x) (s := x) rfl
          clear he
          go_wp2_with fail
          go_roundw
          case rel => exact ⟨_, cnt1, _, HI3.out, HLf.out, HL3.out, by omega⟩
          case measure => rw [World.ranges.left_eq HI3.out, World.ranges.left_eq HI.out]; exact hlt
end Go.Proofs.Yteliaammffmmiaa
