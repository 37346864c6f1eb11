/-
  The reference of layer 17: a query's text. Over the program's own text.
-/
import Derived.Test.YthkpaelpnofbgaaGreatDoorQsC17
import Derived.Test.YthkpaelpnofbgaaGreatDoorQsC18
import Derived.Test.YthkpaelpnofbgaaGreatDoorQsC15
import Derived.Test.YthkpaelpnofbgaaGreatDoorQsC06
import Derived.Test.YthkpaelpnofbgaaGreatDoorQsC07
import Derived.Test.YthkpaelpnofbgaaGreatDoorQsC05

namespace Go.Proofs.YthkpaelpnofbgaaGreatDoor
open Go.RowKit

/-- What Show answers of a query. -/
def showX (x : Nd) (lim ord : Int) : ByteArray × Int := if mayQ x lim ord = true then (if 256 < (wholeR bytesL x lim ord).length then (⟨#[]⟩, 4) else (byteText (wholeR bytesL x lim ord), 0)) else (⟨#[]⟩, 8)
set_option maxRecDepth 100000 in
theorem mayQ_parts {x : Nd} {lim ord : Int} (h : mayQ x lim ord = true) : 0 ≤ lim ∧ lim ≤ 64 ∧ (ord = 0 ∨ ord = 1) ∧ mayT 0 x = true := by
  unfold mayQ at h
  simp only [Bool.and_eq_true, decide_eq_true_eq, Bool.or_eq_true, beq_iff_eq] at h
  exact ⟨h.1.1.1, h.1.1.2, h.1.2, h.2⟩
set_option maxRecDepth 100000 in
theorem byte_one17 (w : World) (r : Nat) (hr : r < 256) : (convert 45 9 (.slice (some ⟨w.heap.size, 0, none⟩) 1 1)).run Tryz.prog (w.alloc (.cells #[.int .u8 (r : Int)] 5)) = .ok (.string (byteText [r])) (w.alloc (.cells #[.int .u8 (r : Int)] 5)) :=
  byte_row w #[.int .u8 (r : Int)] [r] (by intro b hb; simp at hb; omega) (by simp) 1 rfl (by decide)
set_option maxRecDepth 100000 in
/-- The end: what is too long is none. -/
theorem show_end {x : Nd} {lim ord : Int} {s : ByteArray} (hm : mayQ x lim ord = true) (h : Cut s (wholeR bytesL x lim ord)) : showX x lim ord = if 256 < s.size then (⟨#[]⟩, 4) else (s, 0) := by
  unfold showX
  rw [if_pos hm]
  rcases h with h | ⟨h1, h2⟩
  · rw [← h, bytesL_length, byteText_bytesL]
  · rw [if_pos (by omega), if_pos (by omega)]

set_option maxRecDepth 100000 in
set_option maxHeartbeats 8000000 in
theorem ref_show17 (x : Nd) (hwt : wtN x ≤ 3000) (w : World) (S : Nat → Prop) (r : Rn) (lim ord : Int) (h : RdN w S x r) :
    Calls Tryz.prog 8 #[.agg (qryC r lim ord).toArray] w fun e w' => e = .returned (.tuple #[.string (showX x lim ord).1, .int .i64 (showX x lim ord).2]) ∧ Below w.heap.size w w' := by
  obtain ⟨mq, hmq⟩ : ∃ b, mayQ x lim ord = b := ⟨_, rfl⟩
  have HM := Lib.hid (fun wx (hb : Below w.heap.size w wx) => (show Calls Tryz.prog 11 #[.agg (qryC r lim ord).toArray] wx fun e w' => e = .returned (.bool mq) ∧ Below wx.heap.size wx w' from hmq ▸ ref_may x hwt wx S r lim ord (h.after hb)))
  have HT := Lib.hid (fun (hm : mayT 0 x = true) wx (hb : Below w.heap.size w wx) => ref_text17 x hwt 0 hm wx S r (h.after hb))
  have HMq := Lib.hid hmq
  obtain ⟨res, hres⟩ : ∃ p, p = showX x lim ord := ⟨_, rfl⟩
  rw [← hres]
  have HRes := Lib.hid hres
  obtain ⟨k5, f5, tv5, kv5⟩ := r
  obtain ⟨ta5, tn5, tc5, ka5, kn5, kc5, rfl, rfl⟩ := h.slices
  clear h hmq hres
  rw [show rnV (k5, f5, .slice ta5 tn5 tc5, .slice ka5 kn5 kc5) = .agg #[.int .i64 k5, .int .u8 f5, .slice ta5 tn5 tc5, .slice ka5 kn5 kc5] from rfl] at HT
  rw [show (qryC (k5, f5, .slice ta5 tn5 tc5, .slice ka5 kn5 kc5) lim ord).toArray = #[.int .i64 k5, .int .u8 f5, .slice ta5 tn5 tc5, .slice ka5 kn5 kc5, .int .i64 lim, .int .i64 ord] from rfl] at HM ⊢
  obtain ⟨X, hX⟩ : ∃ X : Obj, X = .cells #[.int .i64 k5, .int .u8 f5, .slice ta5 tn5 tc5, .slice ka5 kn5 kc5, .int .i64 lim, .int .i64 ord] 27 := ⟨_, rfl⟩
  have hx1 : (w.alloc X).heap[w.heap.size]? = some (.cells #[.int .i64 k5, .int .u8 f5, .slice ta5 tn5 tc5, .slice ka5 kn5 kc5, .int .i64 lim, .int .i64 ord] 27 (0, 0)) := by rw [heap_alloc_new w X, hX]
  have HB1 := Lib.hid (And.intro (below_one (w := w) (A := X)) hx1)
  have CF : ∀ wx : World, wx.heap[w.heap.size]? = some (.cells #[.int .i64 k5, .int .u8 f5, .slice ta5 tn5 tc5, .slice ka5 kn5 kc5, .int .i64 lim, .int .i64 ord] 27 (0, 0)) →
      wx.cell? ⟨w.heap.size, 0, none⟩ = some (.int .i64 k5) ∧ wx.cell? ⟨w.heap.size, 1, none⟩ = some (.int .u8 f5) ∧ wx.cell? ⟨w.heap.size, 2, none⟩ = some (.slice ta5 tn5 tc5) ∧ wx.cell? ⟨w.heap.size, 3, none⟩ = some (.slice ka5 kn5 kc5) ∧ wx.cell? ⟨w.heap.size, 4, none⟩ = some (.int .i64 lim) ∧ wx.cell? ⟨w.heap.size, 5, none⟩ = some (.int .i64 ord) := fun wx hx =>
    ⟨(cell_at hx 0).trans rfl, (cell_at hx 1).trans rfl, (cell_at hx 2).trans rfl, (cell_at hx 3).trans rfl, (cell_at hx 4).trans rfl, (cell_at hx 5).trans rfl⟩
  have HCF := Lib.hid CF
  obtain ⟨c0, c1, c2, c3, c4, c5⟩ := CF _ hx1
  clear hx1 CF
  go_enter Tryz.func8, Tryz.ntmps8
  go_upto_region 1 with fail
  rw [← hX]
  clear hX
  generalize w.alloc X = w1 at HB1 c0 c1 c2 c3 c4 c5 ⊢
  have HMg := Lib.hid (HM.out w1 HB1.out.1)
  clear HM
  cases mq
  · have hz : res = (⟨#[]⟩, 8) := by rw [HRes.out]; unfold showX; rw [if_neg (by rw [HMq.out]; decide)]
    subst hz
    go_wp2_with fail
    refine HMg.out.mono ?_
    rintro e w2 ⟨rfl, hb2⟩
    have HZ := Lib.hid (low_more HB1.out.1 hb2)
    clear hb2
    go_wp2_with fail
    go_ret2
    exact ⟨rfl, HZ.out⟩
  obtain ⟨hl0, hl1, hord, hmt⟩ := mayQ_parts HMq.out
  obtain ⟨n, rfl⟩ : ∃ n : Nat, lim = (n : Int) := ⟨lim.toNat, by omega⟩
  have HEnd := Lib.hid (fun s (hc : Cut s (wholeR bytesL x (n : Int) ord)) => HRes.out.trans (show_end HMq.out hc))
  have HTg := Lib.hid (fun wx (hb : Below w.heap.size w wx) => HT.out hmt wx hb)
  clear HRes HMq HT hmt
  go_wp2_with fail
  refine HMg.out.mono ?_
  rintro e w2 ⟨rfl, hb2⟩
  obtain ⟨c0, c1, c2, c3, c4, c5⟩ := HCF.out _ (blk_low HB1.out.2 hb2)
  have HB2 := Lib.hid (And.intro (low_more HB1.out.1 hb2) (blk_low HB1.out.2 hb2))
  have HTh := Lib.hid (HTg.out w2 HB2.out.1)
  clear hb2 HMg HTg
  go_wp2_with fail
  refine HTh.out.mono ?_
  rintro e w3 ⟨s0, rfl, hc, hs, hb3⟩
  obtain ⟨c0, c1, c2, c3, c4, c5⟩ := HCF.out _ (blk_low HB2.out.2 hb3)
  have HB3 := Lib.hid (And.intro (low_more HB2.out.1 hb3) (blk_low HB2.out.2 hb3))
  have hs0 : s0.size ≤ 18000000 := by omega
  obtain ⟨s1, hadd1, hA, hA2⟩ := add_text (P := Tryz.prog) s0 ⟨#[32, 35]⟩ (by rw [show (⟨#[32, 35]⟩ : ByteArray).size = 2 from rfl]; omega)
  rw [show (⟨#[32, 35]⟩ : ByteArray).size = 2 from rfl] at hA2
  have HC1 := Lib.hid (show Cut s1 (showB x ++ [32, 35]) from by rw [hA]; exact Cut.add hc (.inl rfl))
  have hs1 : s1.size ≤ 18000010 := by omega
  clear hb3 hc hs hA hA2 HTh HB2
  have hr1 : (n : Int).tmod 10 = ((n % 10 : Nat) : Int) := by rw [Int.tmod_eq_emod_of_nonneg (by omega)]; omega
  have hr2 : (n : Int) % 10 = ((n % 10 : Nat) : Int) := by omega
  have hq1 : (n : Int).tdiv 10 = ((n / 10 : Nat) : Int) := by rw [Int.tdiv_eq_ediv_of_nonneg (by omega)]; omega
  have hq2 : (n : Int) / 10 = ((n / 10 : Nat) : Int) := by omega
  obtain ⟨a, ha⟩ : ∃ a : Nat, a = n / 10 := ⟨_, rfl⟩
  obtain ⟨b, hb⟩ : ∃ b : Nat, b = n % 10 := ⟨_, rfl⟩
  have hab : n = 10 * a + b ∧ b ≤ 9 ∧ a ≤ 6 := by omega
  rw [← ha] at hq1 hq2
  rw [← hb] at hr1 hr2
  have HDig := Lib.hid (show digitsL (n : Int) = if n < 10 then [48 + b] else [48 + a, 48 + b] from by
    unfold digitsL
    by_cases h10 : n < 10
    · rw [if_pos (by omega), if_pos h10]; congr 1; omega
    · rw [if_neg (by omega), if_neg h10, show ((n : Int).toNat) = n from rfl, ← ha, ← hb])
  have hcb := fun wx : World => byte_one17 wx (48 + b) (by omega)
  have hca := fun wx : World => byte_one17 wx (48 + a) (by omega)
  obtain ⟨tb, htb⟩ : ∃ tb, tb = byteText [48 + b] := ⟨_, rfl⟩
  obtain ⟨ta_, hta⟩ : ∃ tb, tb = byteText [48 + a] := ⟨_, rfl⟩
  have HTb := Lib.hid (show bytesL tb = [48 + b] from by rw [htb]; exact bytesL_byteText _ (by intro c hc; simp at hc; omega))
  have HTa := Lib.hid (show bytesL ta_ = [48 + a] from by rw [hta]; exact bytesL_byteText _ (by intro c hc; simp at hc; omega))
  have hsb : tb.size = 1 := by rw [htb]; rfl
  have hsa : ta_.size = 1 := by rw [hta]; rfl
  rw [← htb] at hcb
  rw [← hta] at hca
  rw [show ((48 + b : Nat) : Int) = 48 + (b : Int) from by omega] at hcb
  rw [show ((48 + a : Nat) : Int) = 48 + (a : Int) from by omega] at hca
  have hsw : w.heap.size < w3.heap.size := lt_of_heap HB3.out.2
  have hb9 := hab.2.1
  have ha6 := hab.2.2
  have HAB := Lib.hid hab.1
  clear ha hb htb hta hab
  by_cases h10 : n < 10
  case pos =>
    have h9 : ¬ (9 : Int) < (n : Int) := by omega
    obtain ⟨s3, hadd3, hB, hB2⟩ := add_text (P := Tryz.prog) s1 tb (by omega)
    have HC3 := Lib.hid (show Cut s3 (showB x ++ [32, 35] ++ digitsL (n : Int)) from by
      rw [hB, HDig.out, if_pos h10]
      exact Cut.add HC1.out (.inl HTb.out))
    have hs3 : s3.size ≤ 18000020 := by omega
    clear hB hB2 HC1
    rcases hord with rfl | rfl
    · obtain ⟨s5, hadd5, hE, hE2⟩ := add_text (P := Tryz.prog) s3 ⟨#[32, 64, 114, 97, 110, 107]⟩ (by rw [show (⟨#[32, 64, 114, 97, 110, 107]⟩ : ByteArray).size = 6 from rfl]; omega)
      have HC5 := Lib.hid (HEnd.out s5 (by
        have := Cut.add HC3.out (t := ⟨#[32, 64, 114, 97, 110, 107]⟩) (M := [32, 64, 114, 97, 110, 107]) (.inl rfl)
        rw [hE, show wholeR bytesL x (n : Int) 0 = showB x ++ [32, 35] ++ digitsL (n : Int) ++ [32, 64, 114, 97, 110, 107] from by unfold wholeR orderL showB; simp]
        exact this))
      clear hE hE2 HEnd
      by_cases hbig : (256 : Int) < (s5.size : Int)
      · have hz : res = (⟨#[]⟩, 4) := by rw [HC5.out, if_pos (by omega)]
        subst hz
        go_wp2_with fail
        go_ret2
        exact ⟨rfl, HB3.out.1.trans (((Below.refl _ _).alloc (Nat.le_refl _) _).mono HB3.out.1.size)⟩
      · have hz : res = (s5, 0) := by rw [HC5.out, if_neg (by omega)]
        subst hz
        go_wp2_with fail
        go_ret2
        exact ⟨rfl, HB3.out.1.trans (((Below.refl _ _).alloc (Nat.le_refl _) _).mono HB3.out.1.size)⟩
    · obtain ⟨s5, hadd5, hE, hE2⟩ := add_text (P := Tryz.prog) s3 ⟨#[32, 64, 110, 101, 119]⟩ (by rw [show (⟨#[32, 64, 110, 101, 119]⟩ : ByteArray).size = 5 from rfl]; omega)
      have HC5 := Lib.hid (HEnd.out s5 (by
        have := Cut.add HC3.out (t := ⟨#[32, 64, 110, 101, 119]⟩) (M := [32, 64, 110, 101, 119]) (.inl rfl)
        rw [hE, show wholeR bytesL x (n : Int) 1 = showB x ++ [32, 35] ++ digitsL (n : Int) ++ [32, 64, 110, 101, 119] from by unfold wholeR orderL showB; simp]
        exact this))
      clear hE hE2 HEnd
      by_cases hbig : (256 : Int) < (s5.size : Int)
      · have hz : res = (⟨#[]⟩, 4) := by rw [HC5.out, if_pos (by omega)]
        subst hz
        go_wp2_with fail
        go_ret2
        exact ⟨rfl, HB3.out.1.trans (((Below.refl _ _).alloc (Nat.le_refl _) _).mono HB3.out.1.size)⟩
      · have hz : res = (s5, 0) := by rw [HC5.out, if_neg (by omega)]
        subst hz
        go_wp2_with fail
        go_ret2
        exact ⟨rfl, HB3.out.1.trans (((Below.refl _ _).alloc (Nat.le_refl _) _).mono HB3.out.1.size)⟩
  case neg =>
    have h9 : (9 : Int) < (n : Int) := by omega
    obtain ⟨s2, hadd2, hA, hA2⟩ := add_text (P := Tryz.prog) s1 ta_ (by omega)
    obtain ⟨s3, hadd3, hB, hB2⟩ := add_text (P := Tryz.prog) s2 tb (by omega)
    have HC3 := Lib.hid (show Cut s3 (showB x ++ [32, 35] ++ digitsL (n : Int)) from by
      rw [hB, hA, HDig.out, if_neg h10]
      have := Cut.add (Cut.add HC1.out (.inl HTa.out)) (.inl HTb.out)
      simpa using this)
    have hs3 : s3.size ≤ 18000020 := by omega
    clear hA hA2 hB hB2 HC1
    have hcb2 := hcb (w3.alloc (.cells #[.int .u8 (48 + (a : Int))] 5))
    rw [show (w3.alloc (.cells #[.int .u8 (48 + (a : Int))] 5)).heap.size = w3.heap.size + 1 from by simp] at hcb2
    clear hcb
    rcases hord with rfl | rfl
    · obtain ⟨s5, hadd5, hE, hE2⟩ := add_text (P := Tryz.prog) s3 ⟨#[32, 64, 114, 97, 110, 107]⟩ (by rw [show (⟨#[32, 64, 114, 97, 110, 107]⟩ : ByteArray).size = 6 from rfl]; omega)
      have HC5 := Lib.hid (HEnd.out s5 (by
        have := Cut.add HC3.out (t := ⟨#[32, 64, 114, 97, 110, 107]⟩) (M := [32, 64, 114, 97, 110, 107]) (.inl rfl)
        rw [hE, show wholeR bytesL x (n : Int) 0 = showB x ++ [32, 35] ++ digitsL (n : Int) ++ [32, 64, 114, 97, 110, 107] from by unfold wholeR orderL showB; simp]
        exact this))
      clear hE hE2 HEnd
      by_cases hbig : (256 : Int) < (s5.size : Int)
      · have hz : res = (⟨#[]⟩, 4) := by rw [HC5.out, if_pos (by omega)]
        subst hz
        go_wp2_with fail
        go_ret2
        exact ⟨rfl, HB3.out.1.trans ((((Below.refl _ _).alloc (Nat.le_refl _) _).alloc (by simp) _).mono HB3.out.1.size)⟩
      · have hz : res = (s5, 0) := by rw [HC5.out, if_neg (by omega)]
        subst hz
        go_wp2_with fail
        go_ret2
        exact ⟨rfl, HB3.out.1.trans ((((Below.refl _ _).alloc (Nat.le_refl _) _).alloc (by simp) _).mono HB3.out.1.size)⟩
    · obtain ⟨s5, hadd5, hE, hE2⟩ := add_text (P := Tryz.prog) s3 ⟨#[32, 64, 110, 101, 119]⟩ (by rw [show (⟨#[32, 64, 110, 101, 119]⟩ : ByteArray).size = 5 from rfl]; omega)
      have HC5 := Lib.hid (HEnd.out s5 (by
        have := Cut.add HC3.out (t := ⟨#[32, 64, 110, 101, 119]⟩) (M := [32, 64, 110, 101, 119]) (.inl rfl)
        rw [hE, show wholeR bytesL x (n : Int) 1 = showB x ++ [32, 35] ++ digitsL (n : Int) ++ [32, 64, 110, 101, 119] from by unfold wholeR orderL showB; simp]
        exact this))
      clear hE hE2 HEnd
      by_cases hbig : (256 : Int) < (s5.size : Int)
      · have hz : res = (⟨#[]⟩, 4) := by rw [HC5.out, if_pos (by omega)]
        subst hz
        go_wp2_with fail
        go_ret2
        exact ⟨rfl, HB3.out.1.trans ((((Below.refl _ _).alloc (Nat.le_refl _) _).alloc (by simp) _).mono HB3.out.1.size)⟩
      · have hz : res = (s5, 0) := by rw [HC5.out, if_neg (by omega)]
        subst hz
        go_wp2_with fail
        go_ret2
        exact ⟨rfl, HB3.out.1.trans ((((Below.refl _ _).alloc (Nat.le_refl _) _).alloc (by simp) _).mono HB3.out.1.size)⟩
end Go.Proofs.YthkpaelpnofbgaaGreatDoor
/-
  Layer 17 as it landed: Show. Over the program's own text.
-/
namespace Go.Proofs.YthkpaelpnofbgaaGreatDoor
open Go.RowKit

set_option maxRecDepth 100000 in
theorem dig_small : ∀ n : Nat, n ≤ 64 → bytesL ⟨(Lib.decDigits n).toArray⟩ = digitsL (n : Int) := by decide +kernel
set_option maxRecDepth 100000 in
theorem show_byte (t : Nd) (u : Nat) (h : mayT u t = true) : ∀ b ∈ showB t, b < 256 := by
  rw [← show_text t u h]
  exact textL_byte (show_ok t u h)
set_option maxRecDepth 100000 in
theorem showX_no {x : Nd} {lim ord : Int} (h : mayQ x lim ord = false) : showX x lim ord = (⟨#[]⟩, 8) := by
  unfold showX
  rw [if_neg (by rw [h]; decide)]
set_option maxRecDepth 100000 in
theorem showX_yes {x : Nd} {lim ord : Int} {s : ByteArray} (hm : mayQ x lim ord = true) (h : bytesL s = wholeR bytesL x lim ord) : showX x lim ord = if 256 < s.size then (⟨#[]⟩, 4) else (s, 0) := show_end hm (.inl h)

set_option maxRecDepth 100000 in
set_option maxHeartbeats 8000000 in
theorem prog_show (x : Nd) (hwt : wtN x ≤ 3000) (w : World) (S : Nat → Prop) (r : Rn) (lim ord : Int) (h : RdN w S x r) (hT : TabsIn w) :
    Calls Tryz.prog 7 #[.agg (qryC r lim ord).toArray] w fun e w' => e = .returned (.tuple #[.string (showX x lim ord).1, .int .i64 (showX x lim ord).2]) ∧ Below w.heap.size w w' := by
  obtain ⟨mt, hmt⟩ : ∃ b, mayT 0 x = b := ⟨_, rfl⟩
  have HM := Lib.hid (fun wx (hb : Below w.heap.size w wx) => (show Calls Tryz.prog 14 #[rnV r, .int .i64 0] wx fun e w' => e = .returned (.bool mt) ∧ Below wx.heap.size wx w' from hmt ▸ may_any x hwt wx S r 0 (h.after hb) (hT.below hb) (by omega)))
  have HS := Lib.hid (fun (hm : mayT 0 x = true) (B : Nat) (hBw : w.heap.size ≤ B) wx (hb : Below w.heap.size w wx) (hBx : B ≤ wx.heap.size) => (show Calls Tryz.prog 15 #[.slice none 0 0, rnV r] wx fun e w' => ∃ v', e = .returned v' ∧ BytesIn w' B v' (showB x) ∧ GB wx (.slice none 0 0) w' v' from
    show_any x hwt 0 hm wx B hBx r ((h.mono (S' := fun b => b < B) (fun b hb1 _ => by omega)).keep (fun b hb2 hb3 => hb.block b hb3)) [] (.slice none 0 0) (World.ownsRow_nil _ _ _ _) (by simp; omega)))
  have HMt := Lib.hid hmt
  obtain ⟨res, hres⟩ : ∃ p, p = showX x lim ord := ⟨_, rfl⟩
  rw [← hres]
  have HRes := Lib.hid hres
  obtain ⟨k5, f5, tv5, kv5⟩ := r
  obtain ⟨ta5, tn5, tc5, ka5, kn5, kc5, rfl, rfl⟩ := h.slices
  clear h hmt hres hT
  rw [show rnV (k5, f5, .slice ta5 tn5 tc5, .slice ka5 kn5 kc5) = .agg #[.int .i64 k5, .int .u8 f5, .slice ta5 tn5 tc5, .slice ka5 kn5 kc5] from rfl] at HM HS
  rw [show (qryC (k5, f5, .slice ta5 tn5 tc5, .slice ka5 kn5 kc5) lim ord).toArray = #[.int .i64 k5, .int .u8 f5, .slice ta5 tn5 tc5, .slice ka5 kn5 kc5, .int .i64 lim, .int .i64 ord] from rfl]
  obtain ⟨X, hX⟩ : ∃ X : Obj, X = .cells #[.int .i64 k5, .int .u8 f5, .slice ta5 tn5 tc5, .slice ka5 kn5 kc5, .int .i64 lim, .int .i64 ord] 27 := ⟨_, rfl⟩
  have hx1 : (w.alloc X).heap[w.heap.size]? = some (.cells #[.int .i64 k5, .int .u8 f5, .slice ta5 tn5 tc5, .slice ka5 kn5 kc5, .int .i64 lim, .int .i64 ord] 27 (0, 0)) := by rw [heap_alloc_new w X, hX]
  have HB1 := Lib.hid (And.intro (below_one (w := w) (A := X)) hx1)
  have CF : ∀ wx : World, wx.heap[w.heap.size]? = some (.cells #[.int .i64 k5, .int .u8 f5, .slice ta5 tn5 tc5, .slice ka5 kn5 kc5, .int .i64 lim, .int .i64 ord] 27 (0, 0)) →
      wx.cell? ⟨w.heap.size, 0, none⟩ = some (.int .i64 k5) ∧ wx.cell? ⟨w.heap.size, 1, none⟩ = some (.int .u8 f5) ∧ wx.cell? ⟨w.heap.size, 2, none⟩ = some (.slice ta5 tn5 tc5) ∧ wx.cell? ⟨w.heap.size, 3, none⟩ = some (.slice ka5 kn5 kc5) ∧ wx.cell? ⟨w.heap.size, 4, none⟩ = some (.int .i64 lim) ∧ wx.cell? ⟨w.heap.size, 5, none⟩ = some (.int .i64 ord) := fun wx hx =>
    ⟨(cell_at hx 0).trans rfl, (cell_at hx 1).trans rfl, (cell_at hx 2).trans rfl, (cell_at hx 3).trans rfl, (cell_at hx 4).trans rfl, (cell_at hx 5).trans rfl⟩
  have HCF := Lib.hid CF
  obtain ⟨c0, c1, c2, c3, c4, c5⟩ := CF _ hx1
  clear hx1 CF
  go_enter Tryz.func7, Tryz.ntmps7
  go_upto_region 1 with fail
  rw [← hX]
  clear hX
  generalize w.alloc X = w1 at HB1 c0 c1 c2 c3 c4 c5 ⊢
  by_cases hord : ord = 0 ∨ ord = 1
  case neg =>
    have e0 : (ord == 0) = false := beq_eq_false_iff_ne.2 (by omega)
    have e1 : (ord == 1) = false := beq_eq_false_iff_ne.2 (by omega)
    have hz : res = (⟨#[]⟩, 8) := by rw [HRes.out]; exact showX_no (by unfold mayQ; rw [e0, e1]; simp)
    subst hz
    go_wp2_with fail
    go_ret2
    exact ⟨rfl, HB1.out.1⟩
  rcases hord with rfl | rfl
  · skip
    by_cases hl0 : lim < 0
    · have hz : res = (⟨#[]⟩, 8) := by rw [HRes.out]; exact showX_no (by unfold mayQ; rw [decide_eq_false (by omega : ¬ 0 ≤ lim)]; rfl)
      subst hz
      go_wp2_with fail
      go_ret2
      exact ⟨rfl, HB1.out.1⟩
    by_cases hl1 : 64 < lim
    · have hz : res = (⟨#[]⟩, 8) := by rw [HRes.out]; exact showX_no (by unfold mayQ; rw [decide_eq_false (by omega : ¬ lim ≤ 64)]; simp)
      subst hz
      go_wp2_with fail
      go_ret2
      exact ⟨rfl, HB1.out.1⟩
    have HMg := Lib.hid (HM.out w1 HB1.out.1)
    clear HM
    obtain ⟨n, rfl⟩ : ∃ n : Nat, lim = (n : Int) := ⟨lim.toNat, by omega⟩
    cases mt
    · have hz : res = (⟨#[]⟩, 8) := by rw [HRes.out]; exact showX_no (by unfold mayQ; rw [HMt.out]; simp)
      subst hz
      go_wp2_with fail
      refine HMg.out.mono ?_
      rintro e w2 ⟨rfl, hb2⟩
      have HZ := Lib.hid (low_more HB1.out.1 hb2)
      clear hb2
      go_wp2_with fail
      go_ret2
      exact ⟨rfl, HZ.out⟩
    have HMq := Lib.hid (show mayQ x (n : Int) 0 = true from by unfold mayQ; rw [HMt.out, decide_eq_true (by omega : 0 ≤ (n : Int)), decide_eq_true (by omega : (n : Int) ≤ 64)]; rfl)
    have HSg := Lib.hid (HS.out HMt.out)
    have HBy := Lib.hid (show_byte x 0 HMt.out)
    have HEnd := Lib.hid (fun s (hs : bytesL s = wholeR bytesL x (n : Int) 0) => HRes.out.trans (showX_yes HMq.out hs))
    have hshl := show_len x 0 HMt.out
    obtain ⟨LX, hLX⟩ : ∃ LX, LX = showB x := ⟨_, rfl⟩
    rw [← hLX] at HSg HBy hshl
    have HLX := Lib.hid hLX
    have hlx2 : LX.length ≤ 1800000 := by omega
    clear HS HRes hLX hshl
    have hn64 : n ≤ 64 := by omega
    have HIt := Lib.hid (fun wx : World => Tryz.strconv_Itoa_small n (by omega) wx)
    have HDg := Lib.hid (dig_small n hn64)
    have hdl : (⟨(Lib.decDigits n).toArray⟩ : ByteArray).size ≤ 2 := by
      rw [← bytesL_length, HDg.out]
      unfold digitsL
      split <;> simp
    obtain ⟨D, hD⟩ : ∃ D : ByteArray, D = ⟨(Lib.decDigits n).toArray⟩ := ⟨_, rfl⟩
    rw [← hD] at HIt HDg hdl
    clear hD
    obtain ⟨T1, hT1⟩ : ∃ T1, T1 = byteText LX := ⟨_, rfl⟩
    have HT1 := Lib.hid (show bytesL T1 = LX from by rw [hT1]; exact bytesL_byteText _ HBy.out)
    have hs1 : T1.size = LX.length := by rw [← bytesL_length, HT1.out]
    obtain ⟨T2, hadd2, hA, hA2⟩ := add_text (P := Tryz.prog) T1 ⟨#[32, 35]⟩ (by rw [show (⟨#[32, 35]⟩ : ByteArray).size = 2 from rfl]; omega)
    rw [show (⟨#[32, 35]⟩ : ByteArray).size = 2 from rfl] at hA2
    obtain ⟨T3, hadd3, hC, hC2⟩ := add_text (P := Tryz.prog) T2 D (by omega)
    obtain ⟨T4, hadd4, hE, hE2⟩ := add_text (P := Tryz.prog) T3 ⟨#[32, 64, 114, 97, 110, 107]⟩ (by rw [show (⟨#[32, 64, 114, 97, 110, 107]⟩ : ByteArray).size = 6 from rfl]; omega)
    have HC4 := Lib.hid (HEnd.out T4 (by
      rw [hE, hC, hA, bytesL_append, bytesL_append, bytesL_append, HT1.out, HDg.out, HLX.out, show bytesL ⟨#[32, 64, 114, 97, 110, 107]⟩ = [32, 64, 114, 97, 110, 107] from rfl, show bytesL ⟨#[32, 35]⟩ = [32, 35] from rfl]
      unfold wholeR orderL showB
      simp))
    have HCv := Lib.hid (fun (wx : World) (B : Nat) (vv : Value) (hv : BytesIn wx B vv LX) => (show (convert 45 9 vv).run Tryz.prog wx = .ok (.string T1) wx from by rw [hT1]; exact bytes_string hv HBy.out))
    clear hT1 hs1 hA hA2 hC hC2 hE hE2 HT1 HDg HEnd HLX
    have HK1 := Lib.hid (fun wx (hb : Below w1.heap.size w1 wx) => HCF.out wx (blk_low HB1.out.2 hb))
    go_upto_region 10 with (go_at_call 14; refine HMg.out.mono ?_; rintro e w2 ⟨rfl, hb2⟩; have HB2 := Lib.hid hb2; clear hb2)
    clear c0 c1 c2 c3 c4 c5
    refine wp_region_cl (fun (p : Value) jz => [(.pointer (some ⟨w.heap.size, 0, none⟩)), (.agg #[.int .i64 k5, .int .u8 f5, .slice ta5 tn5 tc5, .slice ka5 kn5 kc5]), p, (.string T1), (.string T2), (.pointer (some ⟨w.heap.size, 4, none⟩)), (.int .i64 (n : Int)), (.string D), (.string T3), (.string ⟨#[32, 64, 114, 97, 110, 107]⟩), (.string T4), (.string T4)].getD jz undef)
      (fun p l wx => Below w2.heap.size w2 wx ∧ (l 2 = true → BytesIn wx w2.heap.size p LX))
      (by kernel_rfl) (by kernel_rfl) (fun q => by simp only [putTo, dstOf, Act.put, List.size_toArray, List.length_cons, List.length_nil, List.getElem?_toArray, Nat.reduceAdd, Option.bind_some, List.getElem?_cons_zero, List.getElem?_cons_succ, List.setIfInBounds_toArray, List.set_cons_zero, List.set_cons_succ, List.getD_cons_zero, List.getD_cons_succ]; exact rfl) (.slice none 0 0) ?_ ?_ ?_
    · exact ⟨(Below.refl _ _).drew, fun h => by cases h⟩
    · intro i o ho p l wx hR hl he hcl K hK
      rcases i with _ | _ | _ | _ | _ | _ | _ | _ | _ | _ | _ | _ | i
      · obtain rfl : _ = o := Option.some.inj ho
        have HR := Lib.hid hR
        clear hR
        go_simp
        exact hK p wx (fun _ _ => rfl) ⟨HR.out.1, fun h => HR.out.2 h⟩
      · obtain rfl : _ = o := Option.some.inj ho
        have HR := Lib.hid hR
        clear hR
        obtain ⟨q0, q1, q2, q3, q4, q5⟩ := HK1.out wx (low_more HB2.out HR.out.1)
        go_simp
        exact hK p wx (fun _ _ => rfl) ⟨HR.out.1, fun h => HR.out.2 h⟩
      · obtain rfl : _ = o := Option.some.inj ho
        have HR := Lib.hid hR
        clear hR
        have HC := Lib.hid (HSg.out w2.heap.size (Nat.le_trans HB1.out.1.size HB2.out.size) wx (low_more HB1.out.1 (low_more HB2.out HR.out.1)) HR.out.1.size)
        go_simp
        refine HC.out.mono ?_
        rintro e wy ⟨v5, rfl, h1, h2⟩
        exact hK v5 wy (fun j hj => by
          rcases j with _ | _ | _ | _ | _ | _ | _ | _ | _ | _ | _ | _ | j
          all_goals first | rfl | (rw [hl] at hj; cases hj)) ⟨HR.out.1.trans (h2.below (l := []) HR.out.1.size (World.ownsRow_nil _ _ _ _)), fun _ => h1⟩
      · obtain rfl : _ = o := Option.some.inj ho
        have HR := Lib.hid hR
        clear hR
        have q := HCv.out wx w2.heap.size p (HR.out.2 (he ⟨2, .data⟩ (by simp) rfl))
        go_simp
        exact hK p wx (fun _ _ => rfl) ⟨HR.out.1, fun h => HR.out.2 h⟩
      · obtain rfl : _ = o := Option.some.inj ho
        have HR := Lib.hid hR
        clear hR
        go_simp
        exact hK p wx (fun _ _ => rfl) ⟨HR.out.1, fun h => HR.out.2 h⟩
      · obtain rfl : _ = o := Option.some.inj ho
        have HR := Lib.hid hR
        clear hR
        go_simp
        exact hK p wx (fun _ _ => rfl) ⟨HR.out.1, fun h => HR.out.2 h⟩
      · obtain rfl : _ = o := Option.some.inj ho
        have HR := Lib.hid hR
        clear hR
        obtain ⟨q0, q1, q2, q3, q4, q5⟩ := HK1.out wx (low_more HB2.out HR.out.1)
        go_simp
        exact hK p wx (fun _ _ => rfl) ⟨HR.out.1, fun h => HR.out.2 h⟩
      · obtain rfl : _ = o := Option.some.inj ho
        have HR := Lib.hid hR
        clear hR
        go_simp
        refine (HIt.out wx).mono ?_
        rintro e wy ⟨rfl, hwy⟩
        have hwy' := hwy.symm
        subst hwy'
        exact hK p wx (fun _ _ => rfl) ⟨HR.out.1, fun h => HR.out.2 h⟩
      · obtain rfl : _ = o := Option.some.inj ho
        have HR := Lib.hid hR
        clear hR
        go_simp
        exact hK p wx (fun _ _ => rfl) ⟨HR.out.1, fun h => HR.out.2 h⟩
      · obtain rfl : _ = o := Option.some.inj ho
        have HR := Lib.hid hR
        clear hR
        go_simp
        exact hK p wx (fun _ _ => rfl) ⟨HR.out.1, fun h => HR.out.2 h⟩
      · obtain rfl : _ = o := Option.some.inj ho
        have HR := Lib.hid hR
        clear hR
        go_simp
        exact hK p wx (fun _ _ => rfl) ⟨HR.out.1, fun h => HR.out.2 h⟩
      · obtain rfl : _ = o := Option.some.inj ho
        have HR := Lib.hid hR
        clear hR
        go_simp
        exact hK p wx (fun _ _ => rfl) ⟨HR.out.1, fun h => HR.out.2 h⟩
      · simp at ho
    · intro p l wx hl hR
      have HR := Lib.hid hR.1
      clear hR hl
      by_cases hbig : (256 : Int) < (T4.size : Int)
      · have hz : res = (⟨#[]⟩, 4) := by rw [HC4.out, if_pos (by omega)]
        subst hz
        go_wp2_with fail
        go_ret2
        exact ⟨rfl, low_more HB1.out.1 (low_more HB2.out HR.out)⟩
      · have hz : res = (T4, 0) := by rw [HC4.out, if_neg (by omega)]
        subst hz
        go_wp2_with fail
        go_ret2
        exact ⟨rfl, low_more HB1.out.1 (low_more HB2.out HR.out)⟩
  · skip
    by_cases hl0 : lim < 0
    · have hz : res = (⟨#[]⟩, 8) := by rw [HRes.out]; exact showX_no (by unfold mayQ; rw [decide_eq_false (by omega : ¬ 0 ≤ lim)]; rfl)
      subst hz
      go_wp2_with fail
      go_ret2
      exact ⟨rfl, HB1.out.1⟩
    by_cases hl1 : 64 < lim
    · have hz : res = (⟨#[]⟩, 8) := by rw [HRes.out]; exact showX_no (by unfold mayQ; rw [decide_eq_false (by omega : ¬ lim ≤ 64)]; simp)
      subst hz
      go_wp2_with fail
      go_ret2
      exact ⟨rfl, HB1.out.1⟩
    have HMg := Lib.hid (HM.out w1 HB1.out.1)
    clear HM
    obtain ⟨n, rfl⟩ : ∃ n : Nat, lim = (n : Int) := ⟨lim.toNat, by omega⟩
    cases mt
    · have hz : res = (⟨#[]⟩, 8) := by rw [HRes.out]; exact showX_no (by unfold mayQ; rw [HMt.out]; simp)
      subst hz
      go_wp2_with fail
      refine HMg.out.mono ?_
      rintro e w2 ⟨rfl, hb2⟩
      have HZ := Lib.hid (low_more HB1.out.1 hb2)
      clear hb2
      go_wp2_with fail
      go_ret2
      exact ⟨rfl, HZ.out⟩
    have HMq := Lib.hid (show mayQ x (n : Int) 1 = true from by unfold mayQ; rw [HMt.out, decide_eq_true (by omega : 0 ≤ (n : Int)), decide_eq_true (by omega : (n : Int) ≤ 64)]; rfl)
    have HSg := Lib.hid (HS.out HMt.out)
    have HBy := Lib.hid (show_byte x 0 HMt.out)
    have HEnd := Lib.hid (fun s (hs : bytesL s = wholeR bytesL x (n : Int) 1) => HRes.out.trans (showX_yes HMq.out hs))
    have hshl := show_len x 0 HMt.out
    obtain ⟨LX, hLX⟩ : ∃ LX, LX = showB x := ⟨_, rfl⟩
    rw [← hLX] at HSg HBy hshl
    have HLX := Lib.hid hLX
    have hlx2 : LX.length ≤ 1800000 := by omega
    clear HS HRes hLX hshl
    have hn64 : n ≤ 64 := by omega
    have HIt := Lib.hid (fun wx : World => Tryz.strconv_Itoa_small n (by omega) wx)
    have HDg := Lib.hid (dig_small n hn64)
    have hdl : (⟨(Lib.decDigits n).toArray⟩ : ByteArray).size ≤ 2 := by
      rw [← bytesL_length, HDg.out]
      unfold digitsL
      split <;> simp
    obtain ⟨D, hD⟩ : ∃ D : ByteArray, D = ⟨(Lib.decDigits n).toArray⟩ := ⟨_, rfl⟩
    rw [← hD] at HIt HDg hdl
    clear hD
    obtain ⟨T1, hT1⟩ : ∃ T1, T1 = byteText LX := ⟨_, rfl⟩
    have HT1 := Lib.hid (show bytesL T1 = LX from by rw [hT1]; exact bytesL_byteText _ HBy.out)
    have hs1 : T1.size = LX.length := by rw [← bytesL_length, HT1.out]
    obtain ⟨T2, hadd2, hA, hA2⟩ := add_text (P := Tryz.prog) T1 ⟨#[32, 35]⟩ (by rw [show (⟨#[32, 35]⟩ : ByteArray).size = 2 from rfl]; omega)
    rw [show (⟨#[32, 35]⟩ : ByteArray).size = 2 from rfl] at hA2
    obtain ⟨T3, hadd3, hC, hC2⟩ := add_text (P := Tryz.prog) T2 D (by omega)
    obtain ⟨T4, hadd4, hE, hE2⟩ := add_text (P := Tryz.prog) T3 ⟨#[32, 64, 110, 101, 119]⟩ (by rw [show (⟨#[32, 64, 110, 101, 119]⟩ : ByteArray).size = 5 from rfl]; omega)
    have HC4 := Lib.hid (HEnd.out T4 (by
      rw [hE, hC, hA, bytesL_append, bytesL_append, bytesL_append, HT1.out, HDg.out, HLX.out, show bytesL ⟨#[32, 64, 110, 101, 119]⟩ = [32, 64, 110, 101, 119] from rfl, show bytesL ⟨#[32, 35]⟩ = [32, 35] from rfl]
      unfold wholeR orderL showB
      simp))
    have HCv := Lib.hid (fun (wx : World) (B : Nat) (vv : Value) (hv : BytesIn wx B vv LX) => (show (convert 45 9 vv).run Tryz.prog wx = .ok (.string T1) wx from by rw [hT1]; exact bytes_string hv HBy.out))
    clear hT1 hs1 hA hA2 hC hC2 hE hE2 HT1 HDg HEnd HLX
    have HK1 := Lib.hid (fun wx (hb : Below w1.heap.size w1 wx) => HCF.out wx (blk_low HB1.out.2 hb))
    go_upto_region 10 with (go_at_call 14; refine HMg.out.mono ?_; rintro e w2 ⟨rfl, hb2⟩; have HB2 := Lib.hid hb2; clear hb2)
    clear c0 c1 c2 c3 c4 c5
    refine wp_region_cl (fun (p : Value) jz => [(.pointer (some ⟨w.heap.size, 0, none⟩)), (.agg #[.int .i64 k5, .int .u8 f5, .slice ta5 tn5 tc5, .slice ka5 kn5 kc5]), p, (.string T1), (.string T2), (.pointer (some ⟨w.heap.size, 4, none⟩)), (.int .i64 (n : Int)), (.string D), (.string T3), (.string ⟨#[32, 64, 110, 101, 119]⟩), (.string T4), (.string T4)].getD jz undef)
      (fun p l wx => Below w2.heap.size w2 wx ∧ (l 2 = true → BytesIn wx w2.heap.size p LX))
      (by kernel_rfl) (by kernel_rfl) (fun q => by simp only [putTo, dstOf, Act.put, List.size_toArray, List.length_cons, List.length_nil, List.getElem?_toArray, Nat.reduceAdd, Option.bind_some, List.getElem?_cons_zero, List.getElem?_cons_succ, List.setIfInBounds_toArray, List.set_cons_zero, List.set_cons_succ, List.getD_cons_zero, List.getD_cons_succ]; exact rfl) (.slice none 0 0) ?_ ?_ ?_
    · exact ⟨(Below.refl _ _).drew, fun h => by cases h⟩
    · intro i o ho p l wx hR hl he hcl K hK
      rcases i with _ | _ | _ | _ | _ | _ | _ | _ | _ | _ | _ | _ | i
      · obtain rfl : _ = o := Option.some.inj ho
        have HR := Lib.hid hR
        clear hR
        go_simp
        exact hK p wx (fun _ _ => rfl) ⟨HR.out.1, fun h => HR.out.2 h⟩
      · obtain rfl : _ = o := Option.some.inj ho
        have HR := Lib.hid hR
        clear hR
        obtain ⟨q0, q1, q2, q3, q4, q5⟩ := HK1.out wx (low_more HB2.out HR.out.1)
        go_simp
        exact hK p wx (fun _ _ => rfl) ⟨HR.out.1, fun h => HR.out.2 h⟩
      · obtain rfl : _ = o := Option.some.inj ho
        have HR := Lib.hid hR
        clear hR
        have HC := Lib.hid (HSg.out w2.heap.size (Nat.le_trans HB1.out.1.size HB2.out.size) wx (low_more HB1.out.1 (low_more HB2.out HR.out.1)) HR.out.1.size)
        go_simp
        refine HC.out.mono ?_
        rintro e wy ⟨v5, rfl, h1, h2⟩
        exact hK v5 wy (fun j hj => by
          rcases j with _ | _ | _ | _ | _ | _ | _ | _ | _ | _ | _ | _ | j
          all_goals first | rfl | (rw [hl] at hj; cases hj)) ⟨HR.out.1.trans (h2.below (l := []) HR.out.1.size (World.ownsRow_nil _ _ _ _)), fun _ => h1⟩
      · obtain rfl : _ = o := Option.some.inj ho
        have HR := Lib.hid hR
        clear hR
        have q := HCv.out wx w2.heap.size p (HR.out.2 (he ⟨2, .data⟩ (by simp) rfl))
        go_simp
        exact hK p wx (fun _ _ => rfl) ⟨HR.out.1, fun h => HR.out.2 h⟩
      · obtain rfl : _ = o := Option.some.inj ho
        have HR := Lib.hid hR
        clear hR
        go_simp
        exact hK p wx (fun _ _ => rfl) ⟨HR.out.1, fun h => HR.out.2 h⟩
      · obtain rfl : _ = o := Option.some.inj ho
        have HR := Lib.hid hR
        clear hR
        go_simp
        exact hK p wx (fun _ _ => rfl) ⟨HR.out.1, fun h => HR.out.2 h⟩
      · obtain rfl : _ = o := Option.some.inj ho
        have HR := Lib.hid hR
        clear hR
        obtain ⟨q0, q1, q2, q3, q4, q5⟩ := HK1.out wx (low_more HB2.out HR.out.1)
        go_simp
        exact hK p wx (fun _ _ => rfl) ⟨HR.out.1, fun h => HR.out.2 h⟩
      · obtain rfl : _ = o := Option.some.inj ho
        have HR := Lib.hid hR
        clear hR
        go_simp
        refine (HIt.out wx).mono ?_
        rintro e wy ⟨rfl, hwy⟩
        have hwy' := hwy.symm
        subst hwy'
        exact hK p wx (fun _ _ => rfl) ⟨HR.out.1, fun h => HR.out.2 h⟩
      · obtain rfl : _ = o := Option.some.inj ho
        have HR := Lib.hid hR
        clear hR
        go_simp
        exact hK p wx (fun _ _ => rfl) ⟨HR.out.1, fun h => HR.out.2 h⟩
      · obtain rfl : _ = o := Option.some.inj ho
        have HR := Lib.hid hR
        clear hR
        go_simp
        exact hK p wx (fun _ _ => rfl) ⟨HR.out.1, fun h => HR.out.2 h⟩
      · obtain rfl : _ = o := Option.some.inj ho
        have HR := Lib.hid hR
        clear hR
        go_simp
        exact hK p wx (fun _ _ => rfl) ⟨HR.out.1, fun h => HR.out.2 h⟩
      · obtain rfl : _ = o := Option.some.inj ho
        have HR := Lib.hid hR
        clear hR
        go_simp
        exact hK p wx (fun _ _ => rfl) ⟨HR.out.1, fun h => HR.out.2 h⟩
      · simp at ho
    · intro p l wx hl hR
      have HR := Lib.hid hR.1
      clear hR hl
      by_cases hbig : (256 : Int) < (T4.size : Int)
      · have hz : res = (⟨#[]⟩, 4) := by rw [HC4.out, if_pos (by omega)]
        subst hz
        go_wp2_with fail
        go_ret2
        exact ⟨rfl, low_more HB1.out.1 (low_more HB2.out HR.out)⟩
      · have hz : res = (T4, 0) := by rw [HC4.out, if_neg (by omega)]
        subst hz
        go_wp2_with fail
        go_ret2
        exact ⟨rfl, low_more HB1.out.1 (low_more HB2.out HR.out)⟩
end Go.Proofs.YthkpaelpnofbgaaGreatDoor
/-
  Trees that are the same: what the reference says of them. Over the program's own text.
-/
namespace Go.Proofs.YthkpaelpnofbgaaGreatDoor
open Go.RowKit

set_option maxRecDepth 100000 in
set_option maxHeartbeats 4000000 in
theorem same_node : ∀ (x : Nd), FewN x → ∀ (w : World) (S S' : Nat → Prop) (r r' : Rn), RdN w S x r → RdN w S' x r' → Calls Tryz.prog 21 #[rnV r, rnV r'] w fun e w' => e = .returned (.bool true) ∧ Below w.heap.size w w' := by
  refine Nd.induct fun k f ts ks ih hfew w S S' r r' h h' => ?_
  cases h with
  | @mk _ _ _ _ ta ka tc kc rs hf0 hf1 ht htl htm htb hk hkl hkm hkb hl hr =>
  cases h' with
  | @mk _ _ _ _ ta' ka' tc' kc' rs' _ _ ht' htl' htm' htb' hk' hkl' hkm' hkb' hl' hr' =>
  cases hfew with
  | mk hft hfk hfs =>
  obtain ⟨n, hn⟩ : ∃ n, n = ts.length := ⟨_, rfl⟩
  obtain ⟨m, hm⟩ : ∃ m, m = ks.length := ⟨_, rfl⟩
  have hsame : ∀ wx, Below w.heap.size w wx → Calls Tryz.prog 13 #[.slice ta ts.length tc, .slice ta' ts.length tc'] wx fun e w' => e = .returned (.bool true) ∧ Below wx.heap.size wx w' := fun wx hb => by
    have := same_toks wx ta ta' tc tc' ts ts (ht.below hb) (ht'.below hb) hft
    rw [decide_eq_true rfl] at this
    exact this
  rw [← hn] at hsame htl htl'
  rw [← hm] at hkl hkl' hfk
  have HSm := Lib.hid hsame
  have HM := Lib.hid hm
  have HIh := Lib.hid (fun (i : Nat) x r r' (h1 : ks[i]? = some x) (h2 : rs[i]? = some r) (h3 : rs'[i]? = some r') (wx : World) (hb : Below w.heap.size w wx) => ih x (List.mem_of_getElem? h1) (hfs x (List.mem_of_getElem? h1)) wx S S' r r' ((hr i x r h1 h2).after hb) ((hr' i x r' h1 h3).after hb))
  have HK := Lib.hid (And.intro hk (And.intro hk' (And.intro hl hl')))
  have HC := Lib.hid (And.intro hkl hkl')
  rw [← hn, ← hm, show rnV (k, f, .slice ta n tc, .slice ka m kc) = .agg #[.int .i64 k, .int .u8 f, .slice ta n tc, .slice ka m kc] from rfl, show rnV (k, f, .slice ta' n tc', .slice ka' m kc') = .agg #[.int .i64 k, .int .u8 f, .slice ta' n tc', .slice ka' m kc'] from rfl]
  clear hsame hn hm ih hf0 hf1 ht htl htm htb hk hkl hkm hkb hl hr ht' htl' htm' htb' hk' hkl' hkm' hkb' hl' hr' hft hfs
  go_enter Tryz.func21, Tryz.ntmps21
  go_wp2_with (go_at_call 13; refine (HSm.out _ below_al2).mono ?_; rintro e w3 ⟨rfl, hb3⟩; have HB3 := Lib.hid (low_more below_al2 hb3); have HX0 := Lib.hid (blk_low (heap2_0 w _ _) hb3); have HX1 := Lib.hid (blk_low (heap2_1 w _ _) hb3); have q3 := cell_at HX0.out 3; clear hb3)
  clear q3
  go_loopw [38] (fun iv wr => ∃ i : Nat, i ≤ m ∧ iv = .int .i64 i ∧ Below w3.heap.size w3 wr) (fun iv _ => m - (intOf iv).toNat)
  case atStart => exact ⟨0, by omega, rfl, Below.refl _ _⟩
  case round =>
    obtain ⟨i, hi, rfl, hlow⟩ := hrel
    by_cases hlt : i < m
    · obtain ⟨x, hx⟩ : ∃ x, ks[i]? = some x := ⟨_, List.getElem?_eq_getElem (by rw [← HM.out]; exact hlt)⟩
      obtain ⟨ri, hri⟩ : ∃ ri, rs[i]? = some ri := ⟨_, List.getElem?_eq_getElem (by rw [HK.out.2.2.1, ← HM.out]; exact hlt)⟩
      obtain ⟨ri', hri'⟩ : ∃ ri', rs'[i]? = some ri' := ⟨_, List.getElem?_eq_getElem (by rw [HK.out.2.2.2, ← HM.out]; exact hlt)⟩
      obtain ⟨g, o, rfl, hca⟩ := HK.out.1 i ri hri
      obtain ⟨g', o', rfl, hcb⟩ := HK.out.2.1 i ri' hri'
      have HIH : Hid (∀ wx, Below w3.heap.size w3 wx → Calls Tryz.prog 21 #[.agg (rnC ri).toArray, .agg (rnC ri').toArray] wx fun e w' => e = .returned (.bool true) ∧ Below wx.heap.size wx w') := Lib.hid (fun wx hb => HIh.out i x ri ri' hx hri hri' wx (low_more HB3.out hb))
      have HCa := Lib.hid (fun (j : Nat) v (hv : (rnC ri).toArray.toList[j]? = some v) => below_cell (hca j v hv) HB3.out)
      have HCb := Lib.hid (fun (j : Nat) v (hv : (rnC ri').toArray.toList[j]? = some v) => below_cell (hcb j v hv) HB3.out)
      have HLow := Lib.hid hlow
      clear hx hri hri' hca hcb hlow
      have hmi : (i : Int) < (m : Int) := by omega
      go_upto_region 6 with fail
      refine wp_region_cl (fun (p : Unit) jz => [(.pointer (some ⟨w.heap.size, 3, none⟩)), (.slice (some ⟨g, o, none⟩) m kc), (.int .i64 (i : Int)), (.pointer (some ⟨g, o + i * 4, none⟩)), (.agg (rnC ri).toArray), (.pointer (some ⟨w.heap.size + 1, 3, none⟩)), (.slice (some ⟨g', o', none⟩) m kc'), (.int .i64 (i : Int)), (.pointer (some ⟨g', o' + i * 4, none⟩)), (.agg (rnC ri').toArray), (.bool true), (.bool false)].getD jz undef)
        (fun p l wx => Below w3.heap.size w3 wx)
        (by kernel_rfl) (by kernel_rfl) (fun q => by simp only [putTo, dstOf, Act.put, List.size_toArray, List.length_cons, List.length_nil, List.getElem?_toArray, Nat.reduceAdd, Option.bind_some, List.getElem?_cons_zero, List.getElem?_cons_succ, List.setIfInBounds_toArray, List.set_cons_zero, List.set_cons_succ, List.getD_cons_zero, List.getD_cons_succ]; exact rfl) () ?_ ?_ ?_
      · exact HLow.out.drew
      · intro i o ho p l wx hR hl he hcl K hK
        rcases i with _ | _ | _ | _ | _ | _ | _ | _ | _ | _ | _ | _ | i
        · obtain rfl : _ = o := Option.some.inj ho
          go_simp
          exact hK p wx (fun _ _ => rfl) hR
        · obtain rfl : _ = o := Option.some.inj ho
          have q := cell_at (blk_low HX0.out hR) 3
          go_simp
          exact hK p wx (fun _ _ => rfl) hR
        · obtain rfl : _ = o := Option.some.inj ho
          go_simp
          exact hK p wx (fun _ _ => rfl) hR
        · obtain rfl : _ = o := Option.some.inj ho
          go_simp
          exact hK p wx (fun _ _ => rfl) hR
        · obtain rfl : _ = o := Option.some.inj ho
          exact wp_load_cells 25 (.tmp 44) rfl g (o + i * 4) rfl (rnC ri).toArray _ (fun j v hv => below_cell (HCa.out j v hv) hR) Tryz.underlying25 rfl (node_info ri) (hK p wx (fun _ _ => rfl) hR)
        · obtain rfl : _ = o := Option.some.inj ho
          go_simp
          exact hK p wx (fun _ _ => rfl) hR
        · obtain rfl : _ = o := Option.some.inj ho
          have q := cell_at (blk_low HX1.out hR) 3
          go_simp
          exact hK p wx (fun _ _ => rfl) hR
        · obtain rfl : _ = o := Option.some.inj ho
          go_simp
          exact hK p wx (fun _ _ => rfl) hR
        · obtain rfl : _ = o := Option.some.inj ho
          go_simp
          exact hK p wx (fun _ _ => rfl) hR
        · obtain rfl : _ = o := Option.some.inj ho
          exact wp_load_cells 25 (.tmp 49) rfl g' (o' + i * 4) rfl (rnC ri').toArray _ (fun j v hv => below_cell (HCb.out j v hv) hR) Tryz.underlying25 rfl (node_info ri') (hK p wx (fun _ _ => rfl) hR)
        · obtain rfl : _ = o := Option.some.inj ho
          have HR := Lib.hid hR
          clear hR
          go_simp
          refine (HIH.out wx HR.out).mono ?_
          rintro e wy ⟨rfl, hb⟩
          exact hK p wy (fun _ _ => rfl) (low_more HR.out hb)
        · obtain rfl : _ = o := Option.some.inj ho
          go_simp
          exact hK p wx (fun _ _ => rfl) hR
        · simp at ho
      · intro p l wx hl hR
        have HR := Lib.hid hR
        clear hR hl
        go_wp2_with fail
        go_roundw
        case rel => exact ⟨i + 1, by omega, by go_num, HR.out⟩
        case measure => simp [intOf]; omega
    · have HLow := Lib.hid hlow
      clear hlow
      go_wp2_with fail
      try rw [Exit.noGoto_ret]
      go_ret
      exact ⟨rfl, low_more HB3.out HLow.out⟩
end Go.Proofs.YthkpaelpnofbgaaGreatDoor
/-
  A tree that was read has no more terms and kids than the text has runes; runes of texts put together. Without the program's text, but for what a tree's bound is.
-/
namespace Go.Proofs.YthkpaelpnofbgaaGreatDoor

set_option maxRecDepth 100000 in
theorem few_word {k : Nat} {l q l' : List Nat} (h : wordP k l = .ok q l') : q.length ≤ l.length := by
  unfold wordP at h
  split at h
  · cases h
  · injection h with h1 h2
    subst h1
    have := (List.takeWhile_prefix letB (l := skipB l)).length_le
    have := skipB_le l
    omega
set_option maxRecDepth 100000 in
theorem few_phrase {l q l' : List Nat} (h : phraseP l = .ok q l') : q.length ≤ l.length := by
  unfold phraseP at h
  split at h
  · injection h with h1 h2
    subst h1
    exact (List.takeWhile_prefix _).length_le
  · cases h
set_option maxRecDepth 100000 in
theorem few_places : ∀ (L : List (List Nat)) (n : Nat), (placesF n L).length ≤ L.length
  | [], _ => Nat.le_refl _
  | t :: L, n => by
    have := few_places L (n + 1)
    rw [placesF]
    split <;> simp <;> omega
set_option maxRecDepth 100000 in
theorem few_all (q : List Nat) : (allR q).length ≤ q.length + 1 := by
  rw [allR_cut, List.length_map]
  exact cutA_le q []
set_option maxRecDepth 100000 in
theorem few_leafNd (f : Int) {q : List Nat} (h : q.length ≤ 999999) : FewN (leafNd f q) := by
  refine .mk ?_ (by simp) (fun x hx => by cases hx)
  have h1 := few_all q
  have h2 := few_places (allR q) 0
  unfold leafW wordsR
  rw [List.length_map]
  omega
set_option maxRecDepth 100000 in
theorem few_leaf {k : Nat} {l l' : List Nat} {t : Nd} (hl : l.length ≤ 999999) (h : leafP k l = .ok t l') : FewN t := by
  have hf := field_le l
  unfold leafP at h
  split at h
  · obtain ⟨q, h1, rfl⟩ := map_ok h
    have h2 := few_phrase h1
    have h3 := skipB_le (fieldP l).2
    have := List.length_drop (i := 1) (l := skipB (fieldP l).2)
    exact few_leafNd _ (by omega)
  · obtain ⟨q, h1, rfl⟩ := map_ok h
    have := few_word h1
    exact few_leafNd _ (by omega)
set_option maxRecDepth 100000 in
theorem few_join (kind : Int) {ps : List Nd} (hl : ps.length ≤ 1000000) (h : ∀ x ∈ ps, FewN x) : FewN (joinN kind ps) := by
  unfold joinN
  split
  · exact h _ (by simp)
  · exact .mk (by simp) hl h
set_option maxRecDepth 100000 in
theorem few_snoc {ps : List Nd} {n : Nd} (h : ∀ x ∈ ps, FewN x) (hn : FewN n) : ∀ x ∈ ps ++ [n], FewN x := by
  intro x hx
  rcases List.mem_append.1 hx with h1 | h1
  · exact h x h1
  · simp at h1; subst h1; exact hn
set_option maxRecDepth 100000 in
theorem few_andLoop {nt : List Nat → PR Nd} (hn : Less _ nt) (hw : ∀ l n l', l.length ≤ 999999 → nt l = .ok n l' → FewN n) : ∀ (f : Nat) (ps : List Nd) (l : List Nat) (n : Nd) (l' : List Nat), ps.length + l.length ≤ 999999 → (∀ x ∈ ps, FewN x) → andLoop nt f ps l = .ok n l' → FewN n
  | 0, _, _, _, _, _, _, h => by cases h
  | f + 1, ps, l, n, l', hl, hps, h => by
    have hs := skipB_le l
    have hd := List.length_drop (i := 1) (l := skipB l)
    rw [andLoop] at h
    split at h
    · obtain ⟨a, l1, h1, h2⟩ := bind_ok h
      have := hn _ _ _ h1
      exact few_andLoop hn hw f _ _ _ _ (by simp only [List.length_append, List.length_cons, List.length_nil]; omega) (few_snoc hps (hw _ _ _ (by omega) h1)) h2
    · split at h
      · obtain ⟨a, l1, h1, h2⟩ := bind_ok h
        have := hn _ _ _ h1
        exact few_andLoop hn hw f _ _ _ _ (by simp only [List.length_append, List.length_cons, List.length_nil]; omega) (few_snoc hps (hw _ _ _ (by omega) h1)) h2
      · injection h with h1 h2; subst h1; exact few_join 2 (by omega) hps
set_option maxRecDepth 100000 in
theorem few_and {nt : List Nat → PR Nd} (hn : Less _ nt) (hw : ∀ l n l', l.length ≤ 999999 → nt l = .ok n l' → FewN n) : ∀ l n l', l.length ≤ 999999 → andP nt l = .ok n l' → FewN n := by
  intro l n l' hl h
  obtain ⟨a, l1, h1, h2⟩ := bind_ok h
  have := hn _ _ _ h1
  exact few_andLoop hn hw _ [a] l1 n l' (by simp only [List.length_cons, List.length_nil]; omega) (fun x hx => by simp at hx; subst hx; exact hw _ _ _ hl h1) h2
set_option maxRecDepth 100000 in
theorem few_orLoop {nt : List Nat → PR Nd} (hn : Less _ nt) (hw : ∀ l n l', l.length ≤ 999999 → nt l = .ok n l' → FewN n) : ∀ (f : Nat) (ps : List Nd) (l : List Nat) (n : Nd) (l' : List Nat), ps.length + l.length ≤ 999999 → (∀ x ∈ ps, FewN x) → orLoop nt f ps l = .ok n l' → FewN n
  | 0, _, _, _, _, _, _, h => by cases h
  | f + 1, ps, l, n, l', hl, hps, h => by
    have hs := skipB_le l
    have hd := List.length_drop (i := 1) (l := skipB l)
    rw [orLoop] at h
    split at h
    · obtain ⟨a, l1, h1, h2⟩ := bind_ok h
      have := hn _ _ _ h1
      exact few_orLoop hn hw f _ _ _ _ (by simp only [List.length_append, List.length_cons, List.length_nil]; omega) (few_snoc hps (hw _ _ _ (by omega) h1)) h2
    · injection h with h1 h2; subst h1; exact few_join 3 (by omega) hps
set_option maxRecDepth 100000 in
theorem few_or {nt : List Nat → PR Nd} (hn : Less _ nt) (hw : ∀ l n l', l.length ≤ 999999 → nt l = .ok n l' → FewN n) : ∀ l n l', l.length ≤ 999999 → orP nt l = .ok n l' → FewN n := by
  intro l n l' hl h
  obtain ⟨a, l1, h1, h2⟩ := bind_ok h
  have := hn _ _ _ h1
  exact few_orLoop hn hw _ [a] l1 n l' (by simp only [List.length_cons, List.length_nil]; omega) (fun x hx => by simp at hx; subst hx; exact hw _ _ _ hl h1) h2
set_option maxRecDepth 100000 in
theorem few_not : ∀ (k : Nat) (l : List Nat) (n : Nd) (l' : List Nat), l.length ≤ 999999 → notP k l = .ok n l' → FewN n
  | 0, l, n, l', hl, h => by
    have hs := skipB_le l
    rw [notP] at h
    split at h
    · cases h
    · exact few_leaf (by omega) h
  | k + 1, l, n, l', hl, h => by
    have hs := skipB_le l
    have hd := List.length_drop (i := 1) (l := skipB l)
    rw [notP] at h
    split at h
    · obtain ⟨a, h1, rfl⟩ := map_ok h
      have := few_not k _ _ _ (by omega) h1
      exact .mk (by simp) (by simp) (fun x hx => by simp at hx; subst hx; exact this)
    · split at h
      · obtain ⟨a, l1, h1, h2⟩ := bind_ok h
        have := few_or (and_less (not_less k)) (few_and (not_less k) (few_not k)) _ _ _ (by omega) h1
        split at h2
        · injection h2 with h3 h4; subst h3; exact this
        · cases h2
      · exact few_leaf (by omega) h
set_option maxRecDepth 100000 in
theorem few_parse {l l' : List Nat} {x : Nd × Opt} (hl : l.length ≤ 999999) (h : parseR l = .ok x l') : FewN x.1 := by
  rw [parseR_eq] at h
  obtain ⟨n, l1, h1, h2⟩ := bind_ok h
  obtain ⟨o, h3, rfl⟩ := map_ok h2
  exact few_or (and_less (not_less 8)) (few_and (not_less 8) (few_not 8)) _ _ _ hl h1
set_option maxRecDepth 100000 in
theorem few_x {s : ByteArray} : FewN (parseX s).1.1 := by
  unfold parseX
  split
  · exact .mk (by simp) (by simp) (fun x hx => by cases hx)
  · have := (runesOf_many s).1
    split
    · rename_i x l' h
      exact few_parse (by omega) h
    · exact .mk (by simp) (by simp) (fun x hx => by cases hx)
/-! ### Texts put together out of low bytes and others -/
set_option maxRecDepth 100000 in
theorem enc_low {c : Nat} (h : c < 128) : encR c = [c] := by unfold encR; rw [if_pos h]
set_option maxRecDepth 100000 in
theorem text_lowf : ∀ {l : List Nat}, (∀ c ∈ l, c < 128) → textL l = l
  | [], _ => rfl
  | c :: l, h => by
    show encR c ++ textL l = _
    rw [enc_low (h c (by simp)), text_lowf fun x hx => h x (by simp [hx])]
    rfl
set_option maxRecDepth 100000 in
theorem runes_low {l : List Nat} (h : ∀ c ∈ l, c < 128) (L : List Nat) : runesL (l ++ L) = l ++ runesL L := by
  have := runes_text l (fun c hc => ok_low (h c hc)) L
  rwa [text_lowf h] at this
set_option maxRecDepth 100000 in
theorem runes_around {a b : ByteArray} (ha : ∀ c ∈ bytesL a, c < 128) (hb : ∀ c ∈ bytesL b, c < 128) (s : ByteArray) : runesOf (a ++ s ++ b) = bytesL a ++ runesOf s ++ bytesL b := by
  have h0 : runesL [] = [] := by unfold runesL; rfl
  unfold runesOf
  rw [bytesL_append, bytesL_append, List.append_assoc, runes_low ha, List.append_assoc]
  congr 1
  cases hq : bytesL b with
  | nil => rw [List.append_nil, List.append_nil]
  | cons c q =>
    rw [hq] at hb
    rw [runes_apart c q (hb c (by simp)) (bytesL s)]
    congr 2
    have := runes_low (l := q) (fun x hx => hb x (by simp [hx])) []
    rw [List.append_nil, h0, List.append_nil] at this
    exact this
set_option maxRecDepth 100000 in
/-- Blanks at both ends. -/
theorem blanks_x {a b s : ByteArray} (ha : Bl (bytesL a)) (hb : Bl (bytesL b)) (h1 : s.size ≤ 200) (h2 : a.size ≤ 3) (h3 : b.size ≤ 3) : parseX (a ++ s ++ b) = parseX s := by
  have hlow : ∀ c, blankB c = true → c < 128 := by intro c hc; unfold blankB at hc; simp at hc; omega
  have hA := blanks_alike ha hb (runesOf s)
  unfold parseX
  rw [if_neg (by rw [ByteArray.size_append, ByteArray.size_append]; omega), if_neg (by omega), runes_around (fun c hc => hlow c (ha c hc)) (fun c hc => hlow c (hb c hc))]
  revert hA
  cases parseR (runesOf s) with
  | ok x l => cases parseR (bytesL a ++ runesOf s ++ bytesL b) with
    | ok y m => intro h; obtain ⟨h, -⟩ := h; subst h; rfl
    | err e => intro h; cases h
  | err e => cases parseR (bytesL a ++ runesOf s ++ bytesL b) with
    | ok y m => intro h; cases h
    | err f => intro h; cases h; rfl
end Go.Proofs.YthkpaelpnofbgaaGreatDoor
