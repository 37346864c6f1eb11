/-
  The law DictTails' walk. Over the program's own text.
-/
import Derived.Test.YteliaammffmmiaaDictLaw
import Derived.Test.YteliaammffmmiaaMemB
import Derived.Test.YteliaammffmmiaaMemSame
namespace Go.Proofs.Yteliaammffmmiaa
open Go.RowKit

/-- Behind so many rounds: the record's variable, the memory, the row of what is wanted. -/
structure TlRel (W : World) (b9 mb cb wb i : Nat) (wr : World) : Prop where
  a : wr.heap[b9]? = some (.cells #[.int .i64 3] 3 (0, 0))
  mem : ∃ cs l sm, MemAt wr mb cb cs l sm ∧ 0 ≤ l ∧ 0 ≤ sm ∧ l + sm ≤ 2000 + 10 * (i : Int) ∧ cs.length = 119 ∧ (∀ y ∈ cs, U y) ∧ wr.heap[wb]? = some (.cells (cs.map (Value.int .u32)).toArray 52 (0, 0))
  low : Below W.heap.size W wr
  old : W.heap.size ≤ cb ∧ cb < mb ∧ mb < b9 ∧ b9 < wb
theorem int_u32 {cs : List Int} (hcu : ∀ y ∈ cs, U y) {i : Nat} {z : Int} (h : cs[i]? = some z) : U z := hcu z (List.mem_of_getElem? h)
set_option maxRecDepth 100000 in
set_option maxHeartbeats 4000000 in
theorem tails_walk {findP : Int → Int → List Nat → Pr (Int × Int)} (K : KeptDict findP) (W : World) (key : ByteArray) (hks : key.size ≤ maxLen) (oa : Option Addr) (nn c : Nat) (R : List Nat) (hn : R.length = nn) (hR : ReadN .u32 W oa R) (hx : ∀ x ∈ R, x < 4294967296) (hnm : nn ≤ maxLen) :
    Calls Try.prog 5 #[.string key, .slice oa nn c] W fun e w' => e = .returned (.bool true) ∧ Below W.heap.size W w' := by
  obtain ⟨kl, hkl⟩ : ∃ kl, key.size = kl := ⟨_, rfl⟩
  have HKL := Lib.hid hkl
  have HN := Lib.hid hn
  have HR := Lib.hid hR
  have HX := Lib.hid hx
  have hnn : (nn : Int) ≤ 9223372036854775807 := by unfold maxLen at hnm; omega
  have hkz : (kl : Int) ≤ 9223372036854775807 := by unfold maxLen at hks; omega
  clear hn hR hx hnm hks
  have HK := Lib.hid K
  have HFx := Lib.hid (fun w => fixed_any K w)
  have HPl := Lib.hid (plan_at W 100 (by omega) (by omega))
  obtain ⟨B, hB⟩ : ∃ B, B = dB 100 := ⟨_, rfl⟩
  obtain ⟨S, hS⟩ : ∃ S, S = dS 100 := ⟨_, rfl⟩
  obtain ⟨T, hT⟩ : ∃ T, T = slotsOf 64 := ⟨_, rfl⟩
  obtain ⟨L, hL⟩ : ∃ L, L = liveOf 1 64 := ⟨_, rfl⟩
  have HF : Hid (∀ mb cb p Us d cs N wr, LawD W 100 119 p mb cb Us d cs N wr → wr.heap[p]? = some (.cells (planC B S 119 T L) 25 (0, 0)) ∧ DS 16 103 B S Us 119 mb cb d cs N wr) := Lib.hid (by
    rintro mb cb p Us d cs N wr ⟨h1, h2, _, _⟩
    have v := (d_vals 100).2.1
    rw [v] at h2
    rw [hB, hS, hT, hL]
    exact ⟨h1, h2⟩)
  have HG : Hid (∀ mb cb p Us d cs N Us' d' cs' N' wr w', LawD W 100 119 p mb cb Us d cs N wr → Mod (fun k => k = mb ∨ k = cb) wr w' → DS 16 103 B S Us' 119 mb cb d' cs' N' w' → LawD W 100 119 p mb cb Us' d' cs' N' w') := Lib.hid (by
    intro mb cb p Us d cs N Us' d' cs' N' wr w' h hm hd
    refine h.turn hm ?_
    have v := (d_vals 100).2.1
    rw [v, ← hB, ← hS]
    exact hd)
  have HV := Lib.hid (show B 4 = 3 ∧ B 5 = 103 ∧ S 4 = 100 by have := d_vals 100; rw [hB, hS]; omega)
  have HDP := Lib.hid (show DP 16 103 B S by
    have := d_dp (bk := 100) (by omega) (by omega) 16 (by omega)
    rw [(d_vals 100).2.1] at this
    rw [hB, hS]
    exact this)
  have HBS := Lib.hid (And.intro hB (And.intro hS (And.intro hT hL)))
  rw [← hB, ← hS, ← hT, ← hL, show (19 : Int) + 100 = 119 from rfl] at HPl
  clear K hB hS hT hL
  go_enter Try.func5, Try.ntmps5
  go_wp2_with fail
  refine HPl.out.mono ?_; rintro e w1 ⟨rfl, hb1⟩
  have hz1 := hb1.size
  go_upto_region 2 with (first
    | (refine wpList_store_row rfl 25 (.tmp 5) (.tmp 16) rfl w1.heap.size (planC B S 119 T L) rfl rfl 25 (planC (fun _ => 0) (fun _ => 0) 0 0 0) (heap_alloc_new w1 _) (planC_info _ _ _ _ _) rfl (planC_one _ _ _ _ _) ?_)
    | fail)
  rw [World.setRow_alloc_new]
  obtain ⟨w2, hw2⟩ : ∃ w2, w2 = w1.alloc (.cells (planC B S 119 T L) 25) := ⟨_, rfl⟩
  rw [← hw2]
  have g2 : w2.heap[w1.heap.size]? = some (.cells (planC B S 119 T L) 25 (0, 0)) := by rw [hw2]; exact heap_alloc_new _ _
  have hB : Below W.heap.size W w2 := by rw [hw2]; exact hb1.alloc hb1.size _
  obtain ⟨p, hp⟩ : ∃ p, p = w1.heap.size := ⟨_, rfl⟩
  rw [← hp] at g2 hz1 ⊢
  have c12 : w2.cell? ⟨p, 12, none⟩ = some (.int .i64 119) := cell_at g2 12
  have H2 := Lib.hid g2
  have HB := Lib.hid hB
  clear hw2 hp hb1 g2 hB HPl
  go_wp2_with fail
  refine (new_ok w2 119 (by omega) (by omega)).mono ?_; rintro e w3 ⟨rfl, hm, hb⟩
  have h3 := (hb.block p (lt_of_heap H2.out)).trans H2.out
  have hB3 := HB.out.trans (hb.mono HB.out.size)
  have hmz : w2.heap.size + 1 < w3.heap.size := lt_of_heap hm.rec_
  have hpc := lt_of_heap H2.out
  obtain ⟨cb, hcb⟩ : ∃ cb, cb = w2.heap.size := ⟨_, rfl⟩
  rw [← hcb] at hm hmz hpc ⊢
  obtain ⟨mb, hmb⟩ : ∃ mb, mb = cb + 1 := ⟨_, rfl⟩
  rw [← hmb] at hm hmz ⊢
  have hds : LawD W 100 119 p mb cb (fun _ => 0) (fun _ => none) (List.replicate 119 0) 0 w3 := ⟨by rw [HBS.out.1, HBS.out.2.1, HBS.out.2.2.1, HBS.out.2.2.2] at h3; exact h3, DS.new (by omega) (by omega) (by omega) (by omega) hm, hB3, ⟨hz1, hpc, by omega⟩⟩
  have HD := Lib.hid hds
  have hcm : cb < mb := by omega
  clear hb h3 hm hcb c12 H2 HB hB3 hds hmz hmb
  go_wp2_with fail
  refine (HFx.out _).mono ?_; rintro e w4 ⟨rfl, hb⟩
  have HD := Lib.hid (HD.out.below hb)
  clear hb
  rcases Nat.lt_or_ge 100 kl with hlen | hlen
  · have hl1 : (100 : Int) < (kl : Int) := by omega
    go_wp2_with fail
    refine (HFx.out _).mono ?_; rintro e w5 ⟨rfl, hb⟩
    have HD := Lib.hid (HD.out.below hb)
    clear hb
    go_wp2_with fail
    go_ret
    exact ⟨rfl, HD.out.low⟩
  have hl1 : ¬ (100 : Int) < (kl : Int) := by omega
  have c5 : w4.cell? ⟨p, 5, none⟩ = some (.int .i64 103) := by rw [← HV.out.2.1]; exact cell_at (HF.out _ _ _ _ _ _ _ _ HD.out).1 5
  have HP5 := Lib.hid (HF.out _ _ _ _ _ _ _ _ HD.out).1
  go_upto_region 6 with fail
  go_wp2_with (first
    | (refine wpList_load_row rfl 25 (.tmp 5) rfl p rfl 25 (planC B S 119 T L) (0, 0) _ HP5.out Try.underlying25 rfl (planC_info _ _ _ _ _) ?_)
    | fail)
  have hcl := cellsN_length (bytesL key)
  have hbl : (bytesL key).length ≤ 100 := by rw [bytesL_length, hkl]; exact hlen
  obtain ⟨csp, hdo, hlp⟩ := putD_does (B := B) (S := S) (Us := fun _ => 0) (s := 103) (slot := 3) (k := bytesL key) (cs := List.replicate 119 0) (by rw [HV.out.1]; omega) (bytesL_lt key) hbl (by rw [HV.out.2.2]; omega) (by rw [HV.out.1, HV.out.2.2]; simp) (by omega) (by simp) (by simp)
  have hcall := put_does HK.out HDP.out (HF.out _ _ _ _ _ _ _ _ HD.out).2 (Z := 119) (T := T) (L := L) (slot := 3) (by omega) key (by omega) (by omega) (by omega) hdo (by omega)
  refine hcall.mono ?_; rintro e w5 ⟨hm5, he, hcu5, l5, s5, hm, l0, s0, hls⟩
  obtain ⟨V, hV⟩ : ∃ V, V = more (fun _ => (0 : Int)) 4 (2 + ((cellsN (bytesL key)).length : Int)) := ⟨_, rfl⟩
  have he2 : e = .returned (.tuple #[.int .i64 3, .agg (six V), .int .i64 0]) := by rw [he, hV, HV.out.1]; rfl
  subst he2
  have hsz5 := lt_of_heap hm.rec_
  have hlow5 := low_mem HD.out.low hm5 (by omega) (by omega)
  have HM := Lib.hid (show ∃ l s, MemAt w5 mb cb csp l s ∧ 0 ≤ l ∧ 0 ≤ s ∧ l + s ≤ 2000 from ⟨l5, s5, hm, l0, s0, by omega⟩)
  have HC := Lib.hid (And.intro hlow5 (And.intro hcu5 (show csp.length = 119 by rw [hlp]; simp)))
  clear hcall he hm5 hm l0 s0 hls hV hdo hlp hcl hbl HP5 c5 hcu5 hlow5 HD HF HG
  go_upto_region 7 with (first
    | (refine wpList_store_row rfl 23 (.tmp 10) (.tmp 50) rfl (w5.heap.size + 1) (six V) rfl rfl 23 (six fun _ => 0) (heap2_1 w5 _ _) (six_info _) rfl (six_one _) ?_)
    | fail)
  obtain ⟨w6, hw6⟩ : ∃ w6, w6 = ((w5.alloc (.cells #[.int .i64 3] 3)).alloc (.cells (six fun _ => 0) 23)).setRow (w5.heap.size + 1) (six V) := ⟨_, rfl⟩
  rw [show ((w5.alloc (.cells #[.int .i64 3] 3)).alloc (.cells #[.int .i64 0, .int .i64 0, .int .i64 0, .int .i64 0, .int .i64 0, .int .i64 0] 23)).setRow (w5.heap.size + 1) (six V) = w6 from hw6.symm]
  have a6 : w6.heap[w5.heap.size]? = some (.cells #[.int .i64 3] 3 (0, 0)) := by rw [hw6, setRow_other _ _ _ _ (by omega)]; exact heap2_0 w5 _ _
  have hb6 : Below w5.heap.size w5 w6 := by rw [hw6]; exact below_setRow below_al2 (by omega) _
  obtain ⟨b9, hb9⟩ : ∃ b9, b9 = w5.heap.size := ⟨_, rfl⟩
  rw [← hb9] at a6 hsz5 ⊢
  obtain ⟨l5, s5, hm5, l50, s50, hls5⟩ := HM.out
  obtain ⟨hlow5, hcu5, hcl5⟩ := HC.out
  have hcells := cells_at (hm5.below hb6) (by omega)
  rw [hcl5] at hcells
  have HCells := Lib.hid hcells
  have HM6 := Lib.hid (And.intro (hm5.below hb6) (And.intro a6 (low_more hlow5 hb6)))
  have HS5 := Lib.hid (And.intro l50 (And.intro s50 (And.intro hls5 (And.intro hcu5 hcl5))))
  clear hw6 hb6 hb9 hcells hm5 l50 s50 hls5 hlow5 hcu5 hcl5 a6 HM HC
  go_wp2_with fail
  refine HCells.out.mono ?_; rintro e w7 ⟨rfl, hrow, hb7⟩
  obtain ⟨wb, hwb⟩ : ∃ wb, wb = w6.heap.size := ⟨_, rfl⟩
  rw [← hwb] at hrow ⊢
  have hT : TlRel W b9 mb cb wb 0 w7 := by
    obtain ⟨h1, h2, h3⟩ := HM6.out
    obtain ⟨k1, k2, k3, k4, k5⟩ := HS5.out
    exact ⟨(hb7.block _ (lt_of_heap h2)).trans h2, ⟨csp, l5, s5, h1.below hb7, k1, k2, by omega, k5, k4, hrow⟩, low_more h3 hb7, ⟨by omega, hcm, by omega, by rw [hwb]; exact lt_of_heap h2⟩⟩
  have HTl := Lib.hid hT
  clear hrow hb7 hwb hT HM6 HS5 HCells hsz5
  go_wp2_with fail
  go_loopw [58] (fun iv wr => ∃ i : Nat, i ≤ nn ∧ i ≤ 21 ∧ iv = .int .i64 i ∧ TlRel W b9 mb cb wb i wr) (fun iv _ => nn - (intOf iv).toNat)
  case atStart => exact ⟨0, by omega, by omega, rfl, HTl.out⟩
  case round =>
    clear HTl
    obtain ⟨i, hi, hi21, rfl, hT⟩ := hrel
    have HT := Lib.hid hT
    clear hT
    by_cases hlt : i < nn
    · have hlt1 : (i : Int) < (nn : Int) := by omega
      obtain ⟨y, hy⟩ : ∃ y, R[i]? = some y := ⟨_, List.getElem?_eq_getElem (by rw [HN.out]; exact hlt)⟩
      obtain ⟨g, o, rfl, hcell⟩ := (HR.out.below HT.out.low) i y hy
      have hyx := HX.out y (List.mem_of_getElem? hy)
      clear hy
      by_cases h20 : 20 < i
      · have h21 : (20 : Int) < (i : Int) := by omega
        go_wp2_with fail
        go_ret
        exact ⟨rfl, HT.out.low.alloc HT.out.low.size _⟩
      · have h21 : ¬ (20 : Int) < (i : Int) := by omega
        obtain ⟨ha9, ⟨cs, l, sm, hm, l0, s0, hls, hcl, hcu, hrow⟩, hlow, o1, o2, o3, o4⟩ := HT.out
        obtain ⟨bt, hbt⟩ : ∃ bt, bt = wr.heap.size := ⟨_, rfl⟩
        have hwbt : wb < bt := by rw [hbt]; exact lt_of_heap hrow
        obtain ⟨wa, hwa⟩ : ∃ wa, wa = wr.alloc (.cells #[.int .u32 (y : Int)] 52) := ⟨_, rfl⟩
        have hba : Below wr.heap.size wr wa := by rw [hwa]; exact below_one
        have hta : wa.heap[bt]? = some (.cells #[.int .u32 (y : Int)] 52 (0, 0)) := by rw [hwa, hbt]; exact heap_alloc_new _ _
        have hza : bt < wa.heap.size := lt_of_heap hta
        have h9a := (hba.block _ (lt_of_heap ha9)).trans ha9
        have hrowa := (hba.block _ (lt_of_heap hrow)).trans hrow
        have hu : u32 (y : Int) = (y : Int) := u32_in ⟨by omega, by omega⟩
        have hd1 : Does (setTailR 3 (y : Int)) cs 1 () (cs.set 3 (y : Int)) := by
          have := Does.store (k := .ret ()) (a := 3) (v := (y : Int)) (cs := cs) (cs' := cs.set 3 (y : Int)) (n := 0) (x := ()) (by omega) (by omega) (by rw [hu]; exact .ret _ _)
          exact this
        have hK1 := whole_at (B := 200000000) (hm.below hba) l0 s0 hcu hd1 (fun rb hrb => Se_clo HK.out (a := 3) (t := (y : Int)) (by omega) (by omega) (by omega) (by omega) b9 bt rb mb cb 200000000 (by omega)) ⟨h9a, hta⟩ (fun k hk => by
          unfold SeS at hk
          omega) (by omega) (by omega) (by omega)
        have HK1 := Lib.hid hK1
        have HA := Lib.hid (And.intro hrowa (And.intro (low_more hlow hba) (And.intro hls (And.intro hcl hlow))))
        have HO := Lib.hid (And.intro o1 (And.intro o2 (And.intro o3 (And.intro o4 (And.intro hwbt hza)))))
        clear hK1 hd1 h9a hrowa hta hba hls hrow hm l0 s0 hcu ha9 hlow HT
        go_wp2_with fail
        rw [← hwa, ← hbt]
        clear hwa hbt
        refine HK1.out.mono ?_; rintro e w8 ⟨rfl, ⟨l8, s8, hm8, l80, s80, hls8⟩, hcu8, hI8, _, hmod8⟩
        clear HK1
        obtain ⟨hrowa, hlowa, hls, hcl, hlow⟩ := HA.out
        obtain ⟨o1, o2, o3, o4, hwbt, hza⟩ := HO.out
        have hrow8 := (hmod8.block wb (by omega) (by rintro (e | e | e); unfold SeS at e; omega; omega; omega)).trans hrowa
        have hlow8 := low_mod hlowa hmod8 (by rintro k (e | e | e); unfold SeS at e; omega; omega; omega)
        obtain ⟨bg, hbg⟩ : ∃ bg, bg = w8.heap.size := ⟨_, rfl⟩
        obtain ⟨wc, hwc⟩ : ∃ wc, wc = w8.alloc (.cells #[.int .i64 (-1)] 3) := ⟨_, rfl⟩
        have hbc : Below w8.heap.size w8 wc := by rw [hwc]; exact below_one
        have htc : wc.heap[bg]? = some (.cells #[.int .i64 (-1)] 3 (0, 0)) := by rw [hwc, hbg]; exact heap_alloc_new _ _
        have hzc : bg < wc.heap.size := lt_of_heap htc
        have h9c := (hbc.block _ (lt_of_heap hI8.a)).trans hI8.a
        have htt := (hbc.block _ (lt_of_heap hI8.t)).trans hI8.t
        have hbtg : bt < bg := by rw [hbg]; exact lt_of_heap hI8.t
        have hrowc := (hbc.block _ (lt_of_heap hrow8)).trans hrow8
        have hlc : (cs.set 3 (y : Int)).length = 119 := by simp [hcl]
        have hgy : (cs.set 3 (y : Int)).getD 3 0 = (y : Int) := by rw [getD_setI, if_pos ⟨rfl, by omega⟩]
        have hd2 : Does (tailR 3) (cs.set 3 (y : Int)) 1 (y : Int) (cs.set 3 (y : Int)) := by
          have := Does.load (k := fun v => Pr.ret v) (a := 3) (cs := cs.set 3 (y : Int)) (cs' := cs.set 3 (y : Int)) (n := 0) (x := (y : Int)) (by omega) (by omega) (by rw [show (3 : Int).toNat = 3 from rfl, hgy]; exact .ret _ _)
          exact this
        have hK2 := whole_at (B := 200000000) (hm8.below hbc) l80 s80 hcu8 hd2 (fun rb hrb => Ta_clo HK.out (a := 3) (by omega) (by omega) b9 bg rb mb cb 200000000 (by omega) (by omega) (by omega)) ⟨h9c, ⟨_, htc⟩⟩ (fun k hk => by
          unfold TaS at hk
          omega) (by omega) (by omega) (by omega)
        have HK2 := Lib.hid hK2
        have HA := Lib.hid (And.intro hrowc (And.intro (low_more hlow8 hbc) (And.intro hls8 (And.intro hcu8 (And.intro htt (And.intro hls (And.intro hcl hlc)))))))
        have HO2 := Lib.hid (And.intro hbtg hzc)
        clear hK2 hd2 h9c hrowc htc htt hbc hm8 l80 s80 hcu8 hI8 hmod8 hrow8 hlow8 hrowa hlowa hls8 hgy hls hlow
        go_wp2_with fail
        rw [← hwc, ← hbg]
        clear hwc hbg
        refine HK2.out.mono ?_; rintro e w9 ⟨rfl, ⟨l9, s9, hm9, l90, s90, hls9⟩, hcu9, hI9, hQ9, hmod9⟩
        clear HK2
        obtain ⟨hrowc, hlowc, hls8, _, htt, hls, hcl, hlc⟩ := HA.out
        obtain ⟨hbtg, hzc⟩ := HO2.out
        have hrow9 := (hmod9.block wb (by omega) (by rintro (e | e | e); unfold TaS at e; omega; omega; omega)).trans hrowc
        have htt9 := (hmod9.block bt (by omega) (by rintro (e | e | e); unfold TaS at e; omega; omega; omega)).trans htt
        have hlow9 := low_mod hlowc hmod9 (by rintro k (e | e | e); unfold TaS at e; omega; omega; omega)
        have ca : w9.cell? ⟨b9, 0, none⟩ = some (.int .i64 3) := cell_at hI9.a 0
        have ct : w9.cell? ⟨bt, 0, none⟩ = some (.int .u32 (y : Int)) := cell_at htt9 0
        have cg : w9.cell? ⟨bg, 0, none⟩ = some (.int .i64 (y : Int)) := cell_at hQ9.t 0
        have fw : w9.frozen? ⟨wb, 3, none⟩ = false := free_at hrow9 3
        obtain ⟨z3, hz3⟩ : ∃ z, cs[3]? = some z := ⟨_, List.getElem?_eq_getElem (by omega)⟩
        have cw : w9.cell? ⟨wb, 3, none⟩ = some (.int .u32 z3) := cell_u32 hrow9 hz3
        have hyw : IntKind.i64.wrap (y : Int) = (y : Int) := IntWalk.i64_in _ (by omega)
        obtain ⟨wd, hwd⟩ : ∃ wd, wd = w9.setCell ⟨wb, 3, none⟩ (.int .u32 (y : Int)) := ⟨_, rfl⟩
        have hmd : Mod (fun k => k = wb) w9 wd := by rw [hwd]; exact Mod.setCell (S := fun k => k = wb) (Mod.refl _ _) (.inr rfl) _
        have hrowd : wd.heap[wb]? = some (.cells ((cs.set 3 (y : Int)).map (Value.int .u32)).toArray 52 (0, 0)) := by rw [hwd]; exact row_set hrow9 3 (y : Int)
        have cgd : wd.cell? ⟨bg, 0, none⟩ = some (.int .i64 (y : Int)) := cell_at ((hmd.block bg (lt_of_heap hQ9.t) (by omega)).trans hQ9.t) 0
        have ctd : wd.cell? ⟨bt, 0, none⟩ = some (.int .u32 (y : Int)) := cell_at ((hmd.block bt (lt_of_heap htt9) (by omega)).trans htt9) 0
        have hmdd := hm9.mod hmd (by omega) (by omega)
        have h9d := (hmd.block b9 (lt_of_heap hI9.a) (by omega)).trans hI9.a
        have hlowd := low_mod hlow9 hmd (by rintro k rfl; omega)
        have hcells := cells_at hmdd (by omega)
        rw [hlc] at hcells
        have HCells := Lib.hid hcells
        have HT := Lib.hid (show TlRel W b9 mb cb wb (i + 1) wd from ⟨h9d, ⟨_, l9, s9, hmdd, l90, s90, by omega, hlc, hcu9, hrowd⟩, hlowd, ⟨o1, o2, o3, o4⟩⟩)
        have HRow := Lib.hid hrowd
        have HWd := Lib.hid hwd
        clear hrow9 htt9 hlow9 hmd hrowd hmdd h9d hlowd hcells hm9 l90 s90 hls9 hcu9 hI9 hQ9 hmod9 hls8 hrowc hlowc htt hls hcl hcell HA HO HO2 hwd
        go_upto_region 18 with fail
        rw [← HWd.out]
        clear ca ct cg fw cw hz3 HWd
        go_wp2_with fail
        refine HCells.out.mono ?_; rintro e wf ⟨rfl, hrowf, hbf⟩
        have HSame := Lib.hid (fun w' (hb : Below wf.heap.size wf w') => same_eq w' wd.heap.size wb 119 (cs.set 3 (y : Int)) 52 52 hlc.symm (by omega) ((hb.block _ (lt_of_heap hrowf)).trans hrowf) ((hb.block _ (by have := (hbf.block _ (lt_of_heap HRow.out)).trans HRow.out; exact lt_of_heap this)).trans ((hbf.block _ (lt_of_heap HRow.out)).trans HRow.out)))
        have HT := Lib.hid (show TlRel W b9 mb cb wb (i + 1) wf by
          obtain ⟨a1, ⟨c1, c2, c3, c4, c5, c6, c7, c8, c9, c10⟩, a3, a4⟩ := HT.out
          exact ⟨(hbf.block _ (lt_of_heap a1)).trans a1, ⟨c1, c2, c3, c4.below hbf, c5, c6, c7, c8, c9, (hbf.block _ (lt_of_heap c10)).trans c10⟩, low_more a3 hbf, a4⟩)
        clear hrowf hbf HCells HRow cgd ctd
        go_wp2_with fail
        refine (HSame.out _ (Below.refl _ _)).mono ?_; rintro e wg ⟨rfl, hbg2⟩
        have HT := Lib.hid (show TlRel W b9 mb cb wb (i + 1) wg by
          obtain ⟨a1, ⟨c1, c2, c3, c4, c5, c6, c7, c8, c9, c10⟩, a3, a4⟩ := HT.out
          exact ⟨(hbg2.block _ (lt_of_heap a1)).trans a1, ⟨c1, c2, c3, c4.below hbg2, c5, c6, c7, c8, c9, (hbg2.block _ (lt_of_heap c10)).trans c10⟩, low_more a3 hbg2, a4⟩)
        clear hbg2 HSame
        go_wp2_with fail
        go_roundw
        case rel => exact ⟨i + 1, by omega, by omega, by go_num, HT.out⟩
        case measure => simp [intOf]; omega
    · go_wp2_with fail
      go_ret
      exact ⟨rfl, HT.out.low⟩
end Go.Proofs.Yteliaammffmmiaa
