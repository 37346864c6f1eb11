/-
  The laws' plan and their own example. Over the program's own text.
-/
import Derived.Test.YteliaammffmmiaaDictCalls
import Derived.Test.YteliaammffmmiaaPoolG
import Derived.Test.YteliaammffmmiaaPackLandsA
import Derived.Test.YteliaammffmmiaaPackRef
import Derived.Deep.WholeRow
namespace Go.Proofs.Yteliaammffmmiaa
open Go.RowKit

/-! ### The plan -/
def zS : Nat → Int := fun _ => 0
def dB (bk : Int) : Nat → Int := baseOf (szOf zS bk 16)
def dS (bk : Int) : Nat → Int := szOf zS bk 16
theorem d_vals (bk : Int) : dB bk 4 = 3 ∧ dB bk 5 = 3 + bk ∧ dB bk 6 = 19 + bk ∧ dS bk 4 = bk ∧ dS bk 5 = 16 := by
  simp [dB, dS, baseOf, szOf, zS]
  omega
theorem d_ok {bk : Int} (h0 : 0 ≤ bk) (h1 : bk ≤ 600) : OkConf 1 64 zS bk 16 := by
  refine ⟨⟨by omega, by omega, by omega, by omega, fun k _ => Int.le_refl _, fun k _ => by show (0 : Int) ≤ 512; omega, by omega, by omega, by omega, by omega⟩, ?_⟩
  show dB bk 6 ≤ 65536
  rw [(d_vals bk).2.2.1]
  omega
theorem d_used {bk : Int} (h0 : 0 ≤ bk) (h1 : bk ≤ 600) : ∀ k, k < 6 → 0 ≤ (0 : Int) ∧ (0 : Int) ≤ dS bk k ∧ dS bk k ≤ 1000000 := by
  intro k hk
  refine ⟨by omega, ?_, ?_⟩ <;> (unfold dS szOf zS; split; omega; split; omega; split <;> omega)
theorem d_dp {bk : Int} (h0 : 0 ≤ bk) (h1 : bk ≤ 600) (n : Nat) (hn : 1 ≤ n ∧ n ≤ 64) : DP n (dB bk 5) (dB bk) (dS bk) := by
  obtain ⟨v4, v5, _, s4, _⟩ := d_vals bk
  exact ⟨hn, by omega, by omega, by omega⟩
/-- A new memory, as a dictionary. -/
theorem DS.new {bk : Int} (h0 : 0 ≤ bk) (h1 : bk ≤ 600) {n : Nat} (hn : 1 ≤ n ∧ n ≤ 16) {C : Nat} (hC : (C : Int) = 19 + bk) {mb cb : Nat} {w : World} (hm : MemAt w mb cb (List.replicate C 0) 0 0) : DS n (dB bk 5) (dB bk) (dS bk) (fun _ => 0) C mb cb (fun _ => none) (List.replicate C 0) 0 w := by
  obtain ⟨v4, v5, _, s4, _⟩ := d_vals bk
  refine ⟨⟨0, 0, hm, by omega, by omega, by omega⟩, ⟨by omega, by omega, by omega, by omega, by simp; omega, ?_, ?_, ?_⟩, ?_, ⟨by simp, by omega⟩, d_used h0 h1⟩
  · intro i hi
    rw [List.getD_eq_getElem?_getD, List.getElem?_replicate]
    split <;> rfl
  · intro i a k h; cases h
  · intro i a k h; cases h
  · intro y hy
    rw [(List.mem_replicate.1 hy).2]
    exact u_zero
set_option maxRecDepth 100000 in
set_option maxHeartbeats 1000000 in
theorem plan_at (w : World) (b : Int) (h0 : 0 ≤ b) (h1 : b < 600) : Calls Try.prog 6 #[.int .u16 b] w fun e w' => e = .returned (.agg (planC (dB b) (dS b) (19 + b) (slotsOf 64) (liveOf 1 64))) ∧ Below w.heap.size w w' := by
  obtain ⟨v4, v5, v6, s4, s5⟩ := d_vals b
  have HL := Lib.hid (fun w => (ref_lay_ok w 1 64 zS b 16 0 0 (d_ok h0 (by omega))))
  rw [show baseOf (szOf zS b 16) 6 = 19 + b from v6] at HL
  have hm1 : b % 600 = b := Int.emod_eq_of_lt h0 h1
  have hm2 : b.tmod 600 = b := by rw [Int.tmod_eq_emod_of_nonneg h0]; exact hm1
  have hw : IntKind.i64.wrap b = b := IntWalk.i64_in _ (by omega)
  have HZ : Hid (∃ B S : Nat → Int, ∃ T L Z : Int, B = dB b ∧ S = dS b ∧ T = slotsOf 64 ∧ L = liveOf 1 64 ∧ Z = 19 + b) := Lib.hid ⟨_, _, _, _, _, rfl, rfl, rfl, rfl, rfl⟩
  obtain ⟨B, S, T, L, Z, hB, hS, hT, hL, hZ⟩ := HZ.out
  rw [show baseOf (szOf zS b 16) = dB b from rfl, show szOf zS b 16 = dS b from rfl, ← hB, ← hS, ← hT, ← hL, ← hZ] at HL
  rw [← hB, ← hS, ← hT, ← hL, ← hZ]
  clear HZ hB hS hT hL hZ v4 v5 v6 s4 s5
  go_enter Try.func6, Try.ntmps6
  go_wp2_with fail
  refine (HL.out _).mono ?_; rintro e w1 ⟨rfl, hb1⟩
  have hz1 : w.heap.size < w1.heap.size := by have := hb1.size; simp at this; omega
  have g0 : w1.heap[w.heap.size]? = some (.cells (planC (fun _ => 0) (fun _ => 0) 0 0 0) 25 (0, 0)) := (hb1.block _ (by simp)).trans (heap_alloc_new w _)
  have HB := Lib.hid (low_more below_one hb1)
  have G0 := Lib.hid g0
  clear hb1 g0 HL
  go_upto_region 2 with (first
    | (refine wpList_store_row rfl 25 (.tmp 3) (.tmp 11) rfl w1.heap.size (planC B S Z T L) rfl rfl 25 (planC (fun _ => 0) (fun _ => 0) 0 0 0) (heap_alloc_new w1 _) (planC_info _ _ _ _ _) rfl (planC_one _ _ _ _ _) ?_)
    | fail)
  rw [World.setRow_alloc_new]
  have g1 : (w1.alloc (.cells (planC B S Z T L) 25)).heap[w1.heap.size]? = some (.cells (planC B S Z T L) 25 (0, 0)) := heap_alloc_new _ _
  have g0 := heap_below (o := .cells (planC B S Z T L) 25) G0.out
  have hB := HB.out.alloc HB.out.size (.cells (planC B S Z T L) 25)
  generalize w1.alloc (.cells (planC B S Z T L) 25) = w2 at g0 g1 hB ⊢
  have G0 := Lib.hid g0
  have G1 := Lib.hid g1
  have HB := Lib.hid hB
  clear g0 g1 hB
  go_wp2_with (first
    | (refine wpList_load_row rfl 25 (.tmp 3) rfl w1.heap.size rfl 25 (planC B S Z T L) (0, 0) _ G1.out Try.underlying25 rfl (planC_info _ _ _ _ _) ?_)
    | (refine wpList_store_row rfl 25 (.tmp 2) (.tmp 13) rfl w.heap.size (planC B S Z T L) rfl rfl 25 (planC (fun _ => 0) (fun _ => 0) 0 0 0) G0.out (planC_info _ _ _ _ _) rfl (planC_one _ _ _ _ _) ?_)
    | fail)
  refine bodyPost_ret (v := .agg (planC B S Z T L)) (results_cell_row rfl _ _ w.heap.size _ _ (0, 0) _ rfl (setRow_heap _ _ _ _ _ _ G0.out) Try.underlying25 rfl (planC_info _ _ _ _ _)) rfl ⟨rfl, below_setRow HB.out (Nat.le_refl _) _⟩

/-! ### The example -/
theorem Good.empty {n : Nat} (hn : 0 < n) {k : List Nat} {x : Int × Int} (h : Good n k (fun _ => none) x) : x.1 = 0 ∧ x.2 = (slotOf n (hashN k) 0 : Nat) := by
  rcases h with ⟨t, ht, e, hp, ⟨_, h2⟩ | h1⟩ | ⟨_, _, hp⟩
  · have : t = 0 := by
      rcases Nat.eq_zero_or_pos t with h | h
      · exact h
      · obtain ⟨b, k', h3, _⟩ := hp 0 h
        cases h3
    subst this
    exact ⟨h2, e⟩
  · cases h1
  · obtain ⟨b, k', h3, _⟩ := hp 0 hn
    cases h3
/-- A key that is there is told with its slot. -/
theorem Good.there {n : Nat} {s lo hi : Int} {d : Dict} {cs : List Int} {k : List Nat} {x : Int × Int} {a : Int} {i : Nat} (h : Good n k d x) (hd : DictAt n s lo hi d cs) (hi : d i = some (a, k)) : x.1 = a ∧ x.2 = (i : Int) := by
  have hh : Has d k a := ⟨i, hi⟩
  have ha := hd.pos hh
  rcases h.spec hd with ⟨h1, _⟩ | ⟨_, h2⟩
  · have e := hd.has_eq h1 hh
    rcases h with ⟨t, ht, e2, hp, ⟨_, h3⟩ | h3⟩ | ⟨h3, _⟩
    · omega
    · rw [hd.only h3 hi] at e2
      exact ⟨e, e2⟩
    · omega
  · exact absurd hh (h2 a)
def foxK : ByteArray := byteText [0, 102, 111, 120]
theorem foxK_size : foxK.size = 4 := by decide +kernel
theorem foxK_list : bytesL foxK = [0, 102, 111, 120] := by decide +kernel
theorem foxK_hash : hashN (bytesL foxK) = 2779840588 := by rw [foxK_list]; decide +kernel
theorem foxK_cells : cellsN (bytesL foxK) = [2020566528] := by rw [foxK_list]; decide +kernel
theorem foxK_key (w : World) : Calls Try.prog 26 #[.int .u8 0, .string ⟨#[102, 111, 120]⟩] w fun e w' => e = .returned (.string foxK) ∧ Below w.heap.size w w' := lands_key w 0 ⟨#[102, 111, 120]⟩ (by decide) (by decide) (by decide)

/-- The variables of the example: the plan. -/
structure FixD (w : World) (p mb cb : Nat) (Us : Nat → Int) (d : Dict) (cs : List Int) (N : Nat) (wr : World) : Prop where
  p : wr.heap[p]? = some (.cells (planC (dB 40) (dS 40) (19 + 40) (slotsOf 64) (liveOf 1 64)) 25 (0, 0))
  ds : DS 4 (dB 40 5) (dB 40) (dS 40) Us 59 mb cb d cs N wr
  low : Below w.heap.size w wr
theorem FixD.below {w : World} {p mb cb : Nat} {Us : Nat → Int} {d : Dict} {cs : List Int} {N : Nat} {wr w' : World} (h : FixD w p mb cb Us d cs N wr) (hb : Below wr.heap.size wr w') : FixD w p mb cb Us d cs N w' :=
  ⟨(hb.block _ (lt_of_heap h.p)).trans h.p, h.ds.below hb, h.low.trans (hb.mono h.low.size)⟩
/-- Only the memory has turned. -/
theorem low_mem {w wr w' : World} {mb cb : Nat} (hb : Below w.heap.size w wr) (hm : Mod (fun k => k = mb ∨ k = cb) wr w') (h1 : w.heap.size ≤ mb) (h2 : w.heap.size ≤ cb) : Below w.heap.size w w' :=
  ⟨hm.os.trans hb.os, hm.tape.trans hb.tape, hm.output.trans hb.output, Nat.le_trans hb.size hm.size, fun b hlt => (hm.block b (Nat.lt_of_lt_of_le hlt hb.size) (by omega)).trans (hb.block b hlt)⟩
set_option maxRecDepth 100000 in
set_option maxHeartbeats 4000000 in
theorem fixed_any {findP : Int → Int → List Nat → Pr (Int × Int)} (K : KeptDict findP) (w : World) : Calls Try.prog 8 #[] w fun e w' => e = .returned (.bool true) ∧ Below w.heap.size w w' := by
  have HK := Lib.hid K
  have HPl := Lib.hid (plan_at w 40 (by omega) (by omega))
  obtain ⟨B, hB⟩ : ∃ B, B = dB 40 := ⟨_, rfl⟩
  obtain ⟨S, hS⟩ : ∃ S, S = dS 40 := ⟨_, rfl⟩
  have HF : Hid (∀ p mb cb Us d cs N wr, FixD w p mb cb Us d cs N wr → wr.heap[p]? = some (.cells (planC B S 59 (slotsOf 64) (liveOf 1 64)) 25 (0, 0)) ∧ DS 4 (B 5) B S Us 59 mb cb d cs N wr) := Lib.hid (by
    rintro p mb cb Us d cs N wr ⟨h1, h2, _⟩
    rw [hB, hS]
    exact ⟨h1, h2⟩)
  have HV := Lib.hid (show B 4 = 3 ∧ B 5 = 43 ∧ S 4 = 40 by have := d_vals 40; rw [hB, hS]; omega)
  have HDP := Lib.hid (show DP 4 (B 5) B S by rw [hB, hS]; exact d_dp (by omega) (by omega) 4 (by omega))
  have HT := Lib.hid (And.intro hB hS)
  rw [← hB, ← hS] at HPl
  clear K hB hS
  obtain ⟨T, hT⟩ : ∃ T, T = slotsOf 64 := ⟨_, rfl⟩
  obtain ⟨L, hL⟩ : ∃ L, L = liveOf 1 64 := ⟨_, rfl⟩
  have HTL := Lib.hid (And.intro hT hL)
  rw [← hT, ← hL] at HPl HF
  rw [show (19 : Int) + 40 = 59 from rfl] at HPl
  clear hT hL
  go_enter Try.func8, Try.ntmps8
  go_wp2_with fail
  refine HPl.out.mono ?_; rintro e w1 ⟨rfl, hb1⟩
  have hz1 := hb1.size
  go_upto_region 2 with (first
    | (refine wpList_store_row rfl 25 (.tmp 1) (.tmp 17) rfl w1.heap.size (planC B S 59 T L) rfl rfl 25 (planC (fun _ => 0) (fun _ => 0) 0 0 0) (heap_alloc_new w1 _) (planC_info _ _ _ _ _) rfl (planC_one _ _ _ _ _) ?_)
    | fail)
  rw [World.setRow_alloc_new]
  obtain ⟨w2, hw2⟩ : ∃ w2, w2 = w1.alloc (.cells (planC B S 59 T L) 25) := ⟨_, rfl⟩
  rw [← hw2]
  have g2 : w2.heap[w1.heap.size]? = some (.cells (planC B S 59 T L) 25 (0, 0)) := by rw [hw2]; exact heap_alloc_new _ _
  have hB : Below w.heap.size w w2 := by rw [hw2]; exact hb1.alloc hb1.size _
  obtain ⟨p, hp⟩ : ∃ p, p = w1.heap.size := ⟨_, rfl⟩
  rw [← hp] at g2 hz1 ⊢
  have c12 : w2.cell? ⟨p, 12, none⟩ = some (.int .i64 59) := cell_at g2 12
  have H2 := Lib.hid g2
  have HB := Lib.hid hB
  clear hw2 hp hb1 g2 hB HPl
  go_wp2_with fail
  refine (new_ok w2 59 (by omega) (by omega)).mono ?_; rintro e w3 ⟨rfl, hm, hb⟩
  have h3 := (hb.block p (lt_of_heap H2.out)).trans H2.out
  have hB3 := HB.out.trans (hb.mono HB.out.size)
  have hmz : w2.heap.size + 1 < w3.heap.size := lt_of_heap hm.rec_
  have hw0 : w.heap.size ≤ w2.heap.size := by have := lt_of_heap H2.out; omega
  have hpc := lt_of_heap H2.out
  obtain ⟨cb, hcb⟩ : ∃ cb, cb = w2.heap.size := ⟨_, rfl⟩
  rw [← hcb] at hm hmz hw0 hpc ⊢
  have hds : FixD w p (cb + 1) cb (fun _ => 0) (fun _ => none) (List.replicate 59 0) 0 w3 := ⟨by rw [HT.out.1, HT.out.2, HTL.out.1, HTL.out.2] at h3; exact h3, DS.new (by omega) (by omega) (by omega) (by omega) hm, hB3⟩
  have cB5 : w3.cell? ⟨p, 5, none⟩ = some (.int .i64 43) := by rw [← HV.out.2.1]; exact cell_at h3 5
  have HD := Lib.hid hds
  clear hb h3 hm hcb c12 H2 HB hB3 hds hmz
  go_wp2_with fail
  refine (foxK_key w3).mono ?_; rintro e w4 ⟨rfl, hb⟩
  have HD := Lib.hid (HD.out.below hb)
  clear hb cB5
  go_wp2_with fail
  have hcall := find_at HK.out HDP.out (HF.out _ _ _ _ _ _ _ _ HD.out).2 (by omega) foxK (by rw [foxK_size]; decide) (by rw [foxK_size]; decide)
  rw [HV.out.2.1] at hcall
  refine hcall.mono ?_; rintro e w5 ⟨hm5, ⟨x1, x2⟩, rfl, hg, hds⟩
  have hx := hg.empty (by omega)
  simp only at hx
  rw [foxK_hash] at hx
  obtain ⟨rfl, hx2⟩ := hx
  obtain rfl : x2 = 0 := by rw [hx2]; decide +kernel
  have HG := Lib.hid hg
  have HD := Lib.hid (show FixD w p (cb + 1) cb (fun _ => 0) (fun _ => none) (List.replicate 59 0) 2000 w5 from ⟨(hm5.block p (lt_of_heap HD.out.p) (by omega)).trans HD.out.p, by rw [HT.out.1, HT.out.2, ← HV.out.2.1, HT.out.1] at hds; exact hds, low_mem HD.out.low hm5 (by omega) (by omega)⟩)
  clear hcall hx2 hg hds hm5
  have HP5 := Lib.hid (HF.out _ _ _ _ _ _ _ _ HD.out).1
  go_wp2_with (first
    | (refine wpList_load_row rfl 25 (.tmp 1) rfl p rfl 25 (planC B S 59 T L) (0, 0) _ HP5.out Try.underlying25 rfl (planC_info _ _ _ _ _) ?_)
    | fail)
  have hcall := put_at HK.out HDP.out (HF.out _ _ _ _ _ _ _ _ HD.out).2 (Z := 59) (T := T) (L := L) (by omega) foxK (by rw [foxK_size]; decide) HG.out rfl (by decide)
  rw [HV.out.2.1] at hcall
  refine hcall.mono ?_; rintro e w6 ⟨hm6, ⟨hno, _⟩ | ⟨Us', cs', i, he, hUs, hi, hdn, hds, hle⟩⟩
  · exfalso
    rw [foxK_cells, HV.out.2.2] at hno
    simp at hno
  obtain rfl : i = 0 := by simp only at hi; omega
  have hd0 : Dict.put (fun _ => none) 0 (B 4 + 0, bytesL foxK) 0 = some (3, bytesL foxK) := by unfold Dict.put; rw [if_pos rfl, HV.out.1]; rfl
  obtain ⟨d1, hd1⟩ : ∃ d1 : Dict, d1 = Dict.put (fun _ => none) 0 (B 4 + 0, bytesL foxK) := ⟨_, rfl⟩
  rw [← hd1] at hds hd0
  have he2 : e = .returned (.tuple #[.int .i64 3, .agg (six Us'), .int .i64 0]) := by rw [he, HV.out.1]; rfl
  subst he2
  have HD0 := Lib.hid hd0
  have HD := Lib.hid (show FixD w p (cb + 1) cb Us' d1 cs' 2200 w6 from ⟨(hm6.block p (lt_of_heap HD.out.p) (by omega)).trans HD.out.p, by rw [HT.out.1, HT.out.2, ← HV.out.2.1, HT.out.1] at hds; exact hds, low_mem HD.out.low hm6 (by omega) (by omega)⟩)
  clear hcall he hUs hi hdn hds hle hm6 hd0 hd1 HP5 HG
  have hz6 : p < w6.heap.size := lt_of_heap HD.out.p
  go_upto_region 9 with (first
    | (refine wpList_store_row rfl 23 (.tmp 10) (.tmp 47) rfl w6.heap.size (six Us') rfl rfl 23 (six fun _ => 0) (heap_alloc_new w6 _) (six_info _) rfl (six_one _) ?_)
    | fail)
  rw [World.setRow_alloc_new]
  have hd7 := HD.out.below (below_one (A := .cells (six Us') 23))
  generalize w6.alloc (.cells (six Us') 23) = w7 at hd7 ⊢
  have HD := Lib.hid hd7
  clear hd7
  go_wp2_with fail
  have hcall := find_at HK.out HDP.out (HF.out _ _ _ _ _ _ _ _ HD.out).2 (by omega) foxK (by rw [foxK_size]; decide) (by rw [foxK_size]; decide)
  rw [HV.out.2.1] at hcall
  refine hcall.mono ?_; rintro e w8 ⟨hm8, ⟨y1, y2⟩, rfl, hg, hds⟩
  have hy := hg.there hds.dict HD0.out
  simp only at hy
  obtain ⟨rfl, hy2⟩ := hy
  obtain rfl : y2 = 0 := by omega
  have hgetr := hds.dict.rec_ 0 _ _ HD0.out
  have hlen := hds.len.1
  have hc5 : cs'[5]? = some 2020566528 := by
    have h5 := hgetr.2.2.1.cells 0 2020566528 (by rw [foxK_cells]; rfl)
    rw [show ((3 : Int) + 2 + ((0 : Nat) : Int)).toNat = 5 from rfl, List.getD_eq_getElem?_getD, List.getElem?_eq_getElem (by omega)] at h5
    rw [List.getElem?_eq_getElem (by omega)]
    exact congrArg some h5
  obtain ⟨⟨l8, s8, hm, l0, s0, hls⟩, _, _, _, _⟩ := hds
  have hL := load_z hm 5 2020566528 hc5 l0 (by omega)
  have hp8 := (hm8.block p (lt_of_heap HD.out.p) (by omega)).trans HD.out.p
  have hlow := low_mem HD.out.low hm8 (by omega) (by omega)
  have HL8 := Lib.hid hL
  have HP8 := Lib.hid hp8
  have HB8 := Lib.hid hlow
  clear hcall hy2 hg hm8 hgetr hlen hc5 hm l0 s0 hls hL hp8 hlow HD HD0
  go_wp2_with fail
  refine HL8.out.mono ?_; rintro e w9 ⟨rfl, _, hm9⟩
  have hp9 := (hm9.block p (lt_of_heap HP8.out) (by omega)).trans HP8.out
  have c4 : w9.cell? ⟨p, 4, none⟩ = some (.int .i64 3) := by
    rw [cell_at hp9 4]
    show some (Value.int .i64 (dB 40 4)) = _
    rw [← HT.out.1, HV.out.1]
  have HH := Lib.hid (fun w => ref_hash w foxK (by rw [foxK_size]; decide))
  rw [foxK_hash] at HH
  have HB9 := Lib.hid (low_mem HB8.out (mb := cb + 1) (cb := cb) (hm9.mono fun k _ h => .inl h) (by omega) (by omega))
  clear hm9 hp9 HL8 HP8 HB8
  go_wp2_with (go_at_call 28; refine (HH.out _).mono ?_; rintro e w10 ⟨rfl, rfl⟩)
  go_ret
  exact ⟨rfl, HB9.out⟩
end Go.Proofs.Yteliaammffmmiaa
