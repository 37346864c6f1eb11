/-
  The laws' own example. Over the program's own text.
-/
import Derived.Test.YtgponhdmhgdalaaTableSeen
namespace Go.Proofs.Ytgponhdmhgdalaa
open Go.RowKit

instance (x : Int) : Decidable (U x) := by unfold U; infer_instance
def fxP : Pr Unit := (layR 2 0 7 3 1).bind fun _ => (layR 2 1 8 2 2).bind fun _ => killR 2 0 3
def fxCs : List Int := [0, 0, 1, 7, 3, 3, 2, 8, 2, 0, 0, 0]
theorem fx_does : Does fxP (List.replicate 12 0) 7 () fxCs := by
  have h1 := lay_does (cs := List.replicate 12 0) (b := 2) (d := 0) (id := 7) (l := 3) (v := 1) (by omega) (by decide) (by decide) (by decide) (by decide)
  have h2 := lay_does (cs := layC (List.replicate 12 0) 2 0 7 3 1) (b := 2) (d := 1) (id := 8) (l := 2) (v := 2) (by omega) (by decide) (by decide) (by decide) (by decide)
  have h3 := kill_does (cs := layC (layC (List.replicate 12 0) 2 0 7 3 1) 2 1 8 2 2) (b := 2) (d := 0) (v := 3) (by omega) (by decide) (by decide)
  have e : killC (layC (layC (List.replicate 12 0) 2 0 7 3 1) 2 1 8 2 2) 2 0 3 = fxCs := by decide
  rw [e] at h3
  exact Does.bind (f := fun _ => (layR 2 1 8 2 2).bind fun _ => killR 2 0 3) h1 (Does.bind (f := fun _ => killR 2 0 3) h2 h3)
set_option maxHeartbeats 1000000 in
theorem Fa_clo {rowP : Int → Int → Pr R4} {seenP : Int → Int → Int → Pr (List Sn)} {findP : Int → Int → Int → Pr Int} (K : KeptTable rowP seenP findP) (rb mb cb Bd : Nat) (hB : Bd < 1000000000) : Clo 16 #[] rb mb cb (fun _ => False) (fun _ => True) fxP (fun _ _ => True) Bd where
  enter := fun args w => rfl
  keepI := fun _ _ _ _ _ => trivial
  keepP := fun _ _ _ _ _ _ _ _ => trivial
  old := fun _ _ _ h => h.elim
  call := fun w go st hrm hfine _ _ _ => by
    have HK := Lib.hid K
    have HF := Lib.hid hfine
    have H1 := Lib.hid (K.lay 2 0 7 3 1 hrm hfine hB (by omega) (by omega) (by omega) (by omega) (by decide) (by decide) (by decide))
    clear K hrm hfine
    show Calls Try.prog 16 #[.pointer (some ⟨rb, 0, none⟩)] w _
    go_enter Try.func16, Try.ntmps16
    go_wp2_with fail
    refine H1.out.mono ?_
    clear H1
    rintro e w1 ⟨go1, rfl, hr1, ha1⟩
    have HF1 := Lib.hid (on_fine (layR 2 0 7 3 1) st HF.out)
    have H2 := Lib.hid (HK.out.lay 2 1 8 2 2 hr1 HF1.out hB (by omega) (by omega) (by omega) (by omega) (by decide) (by decide) (by decide))
    have HA := Lib.hid ha1
    clear hr1 ha1
    go_wp2_with fail
    refine H2.out.mono ?_
    clear H2
    rintro e w2 ⟨go2, rfl, hr2, ha2⟩
    have HF2 := Lib.hid (on_fine (layR 2 1 8 2 2) _ HF1.out)
    have H3 := Lib.hid (HK.out.kill 2 0 3 hr2 HF2.out hB (by omega) (by omega) (by omega) (by omega) (by decide))
    have HA := Lib.hid (HA.out.trans ha2)
    clear hr2 ha2
    go_wp2_with fail
    refine H3.out.mono ?_
    clear H3
    rintro e w3 ⟨go3, rfl, hr3, ha3⟩
    have HA := Lib.hid (HA.out.trans ha3)
    have HR := Lib.hid hr3
    clear hr3 ha3
    go_wp2_with fail
    go_end0
    refine ⟨rfl, go3, ?_, HA.out.advS _, trivial, fun _ _ => trivial⟩
    have e : (fxP.on st).2 = ((killR 2 0 3).on ((layR 2 1 8 2 2).on ((layR 2 0 7 3 1).on st).2).2).2 := by
      unfold fxP
      rw [on_seq _ _ HF.out, on_seq _ _ HF1.out]
    rw [e]
    exact HR.out
theorem fx_u : ∀ y ∈ fxCs, U y := by
  intro y hy
  simp [fxCs] at hy
  unfold U
  omega
theorem readSn_below {w w' : World} {oa : Option Addr} {l : List Sn} (h : ReadSn w oa l) (hb : Below w.heap.size w w') : ReadSn w' oa l := h.below hb
theorem mem_low {W w w' : World} {mb cb : Nat} (hb : Below W.heap.size W w) (hm : Mod (fun k => k = mb ∨ k = cb) w w') (h1 : W.heap.size ≤ mb) (h2 : W.heap.size ≤ cb) : Below W.heap.size W w' := low_mod hb hm (by omega)
/-- A row that is read and lies behind W0 stays where only a memory turns that lies ahead. -/
theorem readSn_mem {w w' : World} {oa : Option Addr} {l : List Sn} {W0 mb cb : Nat} (h : ReadSn w oa l) (hW : ∀ ad, oa = some ad → W0 ≤ ad.block) (h1 : mb < W0) (h2 : cb < W0) (hm : Mod (fun k => k = mb ∨ k = cb) w w') : ReadSn w' oa l :=
  readSn_keep h hm fun j x g o _ e _ => by have := hW _ e; simp only at this; omega
set_option maxRecDepth 100000 in
set_option maxHeartbeats 4000000 in
theorem fixed_any {rowP : Int → Int → Pr R4} {seenP : Int → Int → Int → Pr (List Sn)} {findP : Int → Int → Int → Pr Int} (K : KeptTable rowP seenP findP) (w : World) : Calls Try.prog 6 #[] w fun e w' => e = .returned (.bool true) ∧ Below w.heap.size w w' := by
  have HK := Lib.hid K
  clear K
  go_enter Try.func6, Try.ntmps6
  go_wp2_with fail
  refine (new_ok w 12 (by omega) (by omega)).mono ?_; rintro e w1 ⟨rfl, hm, hb⟩
  obtain ⟨cb, hcb⟩ : ∃ cb, cb = w.heap.size := ⟨_, rfl⟩
  rw [← hcb] at hm hb ⊢
  obtain ⟨mb, hmb⟩ : ∃ mb, mb = cb + 1 := ⟨_, rfl⟩
  rw [← hmb] at hm ⊢
  have HB := Lib.hid hb
  have hT := TM.new 12 hm
  have h1 := Lib.hid (hT.whole (by omega) fx_does (fun rb _ => Fa_clo HK.out rb mb cb 200000000 (by omega)) trivial (fun k hk => hk.elim) (by omega))
  have hc0 : w.heap.size ≤ cb := by omega
  have hm0 : w.heap.size ≤ mb := by omega
  have hcm : cb < mb := by omega
  rw [hcb] at HB
  clear hb hm hT hcb hmb
  go_wp2_with fail
  refine h1.out.mono ?_; rintro e w2 ⟨rfl, hT, _, _, hmod⟩
  have hlow := low_mod HB.out hmod (by rintro k (e | e | e); exact e.elim; omega; omega)
  have HB := Lib.hid hlow
  have hlt := hT.lt.1
  have HT := Lib.hid hT
  clear h1 hT hmod hlow
  go_wp2_with fail
  refine (seen_at HK.out HT.out (by omega) 2 2 1 (by omega) (by omega) (by omega) (by decide) (by decide) [((0 : Int), (7 : Int), (3 : Int))] (by decide) 1 rfl).mono ?_; rintro e w3 ⟨hmod, hT, o1, c1, rfl, q1, q2, q3, q4⟩
  have HR1 := Lib.hid q3
  have hz1 : mb < w2.heap.size := by have := HT.out.lt; omega
  have HW1 := Lib.hid q4
  have HB := Lib.hid (mem_low HB.out hmod hm0 hc0)
  have HC1 := Lib.hid (And.intro q1 q2)
  have HT := Lib.hid hT
  clear hmod hT q1 q2 q3 q4
  go_wp2_with fail
  refine (seen_at HK.out HT.out (by omega) 2 2 2 (by omega) (by omega) (by omega) (by decide) (by decide) [((0 : Int), (7 : Int), (3 : Int)), ((1 : Int), (8 : Int), (2 : Int))] (by decide) 2 rfl).mono ?_; rintro e w4 ⟨hmod, hT, o2, c2, rfl, q1, q2, q3, q4⟩
  have HR1 := Lib.hid (readSn_mem HR1.out HW1.out (by omega) (by omega) hmod)
  have HR2 := Lib.hid q3
  have hz2 : mb < w3.heap.size := by have := HT.out.lt; omega
  have HW2 := Lib.hid q4
  have HB := Lib.hid (mem_low HB.out hmod hm0 hc0)
  have HC2 := Lib.hid (And.intro q1 q2)
  have HT := Lib.hid hT
  clear hmod hT q1 q2 q3 q4
  go_wp2_with fail
  refine (seen_at HK.out HT.out (by omega) 2 2 3 (by omega) (by omega) (by omega) (by decide) (by decide) [((1 : Int), (8 : Int), (2 : Int))] (by decide) 1 rfl).mono ?_; rintro e w5 ⟨hmod, hT, o3, c3, rfl, q1, q2, q3, q4⟩
  have HR1 := Lib.hid (readSn_mem HR1.out HW1.out (by omega) (by omega) hmod)
  have HR2 := Lib.hid (readSn_mem HR2.out HW2.out (by omega) (by omega) hmod)
  have HR3 := Lib.hid q3
  have hz3 : mb < w4.heap.size := by have := HT.out.lt; omega
  have HW3 := Lib.hid q4
  have HB := Lib.hid (mem_low HB.out hmod hm0 hc0)
  have HC3 := Lib.hid (And.intro q1 q2)
  have HT := Lib.hid hT
  clear hmod hT q1 q2 q3 q4
  go_upto_region 9 with fail
  obtain ⟨wa, hwa⟩ : ∃ wa, wa = w5.alloc (.cells #[.int .i64 (-1)] 3) := ⟨_, rfl⟩
  rw [← hwa]
  have hba : Below w5.heap.size w5 wa := by rw [hwa]; exact below_one
  have hga : wa.heap[w5.heap.size]? = some (.cells #[.int .i64 (-1)] 3 (0, 0)) := by rw [hwa]; exact heap_alloc_new _ _
  obtain ⟨bg, hbg⟩ : ∃ bg, bg = w5.heap.size := ⟨_, rfl⟩
  rw [← hbg] at hga ⊢
  have hz5 : mb < bg := by have := HT.out.lt; omega
  have hgz : bg < wa.heap.size := lt_of_heap hga
  have HBG := Lib.hid hbg
  have HBA := Lib.hid hba
  have HB := Lib.hid (low_more HB.out hba)
  obtain ⟨m9, hm9, hd9⟩ := HK.out.findD fxCs 2 2 8 (by omega) (by decide)
  rw [show findZ fxCs 2 2 8 = 1 by decide] at hd9
  have h9 := Lib.hid ((HT.out.below hba).whole (by omega) hd9 (fun rb hrb => Fb_clo HK.out bg rb mb cb 200000000 (by omega) (by omega)) ⟨_, hga⟩ (fun k hk => by
    have : k = bg := hk
    omega) (by omega))
  clear hwa hba hga hbg hd9
  go_wp2_with fail
  refine h9.out.mono ?_; rintro e w6 ⟨rfl, hT, _, hQ, hmod⟩
  have hm56 : Mod (Own (FbS bg) mb cb) w5 w6 := (Below.mod HBA.out _ (fun k hk hk' => by omega)).then hmod (fun _ _ h => h)
  have hne : ∀ (W0 : Nat) (oa : Option Addr), mb < W0 → (∀ ad, oa = some ad → W0 ≤ ad.block) → ∀ (g o : Nat), oa = some ⟨g, o, none⟩ → g < w5.heap.size → ¬ Own (FbS bg) mb cb g := by
    intro W0 oa h1 h2 g o e hlt
    have h3 := h2 _ e
    have h4 := HBG.out
    simp only at h3
    rintro (h | h | h)
    · have h5 : g = bg := h
      omega
    · omega
    · omega
  have HR1 := Lib.hid (readSn_keep HR1.out hm56 fun j x g o _ e hlt => hne _ _ hz1 HW1.out g o e hlt)
  have HR3 := Lib.hid (readSn_keep HR3.out hm56 fun j x g o _ e hlt => hne _ _ hz3 HW3.out g o e hlt)
  have HB := Lib.hid (low_mod HB.out hmod (by
    rintro k (e | e | e)
    · have e2 : k = bg := e
      omega
    · omega
    · omega))
  have HQ := Lib.hid hQ.g
  clear hT hQ hmod hm56 hne h9 HBA HBG HT HR2 HW1 HW2 HW3
  go_wp2_with fail
  have hs1 := same_sns (w6.alloc (.cells (snsC [((0 : Int), (7 : Int), (3 : Int))]).toArray 50)) o1 (some ⟨w6.heap.size, 0, none⟩) c1 1 [((0 : Int), (7 : Int), (3 : Int))] [((0 : Int), (7 : Int), (3 : Int))] (readSn_below HR1.out below_one) (readSn_new w6 [((0 : Int), (7 : Int), (3 : Int))] _) (by decide)
  rw [decide_eq_true rfl] at hs1
  refine hs1.mono ?_; rintro e w7 ⟨rfl, hb7⟩
  have hb67 : Below w6.heap.size w6 w7 := low_more below_one hb7
  have HR3 := Lib.hid (readSn_below HR3.out hb67)
  have HB := Lib.hid (low_more HB.out hb67)
  have HQ := Lib.hid ((hb67.block _ (lt_of_heap HQ.out)).trans HQ.out)
  clear hs1 hb7 hb67 HR1
  go_wp2_with fail
  have hs2 := same_sns (w7.alloc (.cells (snsC [((1 : Int), (8 : Int), (2 : Int))]).toArray 50)) o3 (some ⟨w7.heap.size, 0, none⟩) c3 1 [((1 : Int), (8 : Int), (2 : Int))] [((1 : Int), (8 : Int), (2 : Int))] (readSn_below HR3.out below_one) (readSn_new w7 [((1 : Int), (8 : Int), (2 : Int))] _) (by decide)
  rw [decide_eq_true rfl] at hs2
  refine hs2.mono ?_; rintro e w8 ⟨rfl, hb8⟩
  have hb78 : Below w7.heap.size w7 w8 := low_more below_one hb8
  have HB := Lib.hid (low_more HB.out hb78)
  have cg : w8.cell? ⟨bg, 0, none⟩ = some (.int .i64 1) := cell_at ((hb78.block _ (lt_of_heap HQ.out)).trans HQ.out) 0
  clear hs2 hb8 hb78 HR3 HQ
  go_wp2_with fail
  go_ret
  exact ⟨rfl, HB.out⟩
end Go.Proofs.Ytgponhdmhgdalaa
