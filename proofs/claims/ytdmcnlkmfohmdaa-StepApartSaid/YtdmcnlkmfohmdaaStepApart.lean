/-
  A program on another memory is not felt: for every memory up to 256 cells, every two lists of instructions and every row of turns, the law StepApart returns true and leaves its arguments alone.
-/
import Derived.Test.YtdmcnlkmfohmdaaStepApartB
import Derived.Test.YtdmcnlkmfohmdaaMemSame
import Derived.Test.YtdmcnlkmfohmdaaFrame
namespace Go.Proofs.Ytdmcnlkmfohmdaa.stepApart
open Go.ChangeShapes Go.WideShapes Go.ChangeAt Go.RowKit Go.Deep

/-- Behind so many turns: the first and the third run are alike. -/
def Rel (W : World) (p1 p2 p3 : Nat × Nat × Nat) (n : Nat) (D : Nat → Prop) (ao : Option Addr) (len : Nat) (E : Nat → Ins) (ao2 : Option Addr) (len2 : Nat) (E2 : Nat → Ins) (i : Nat) (wr : World) : Prop :=
  ∃ (st st2 : St) (g1 g2 g3 : Option Nat), Three W wr ⟨p1.1, p1.2.1, p1.2.2, g1, st⟩ ⟨p2.1, p2.2.1, p2.2.2, g2, st2⟩ ⟨p3.1, p3.2.1, p3.2.2, g3, st⟩ D ao len E ao2 len2 E2 ∧ st.start.Ok (i + 1) ∧ st2.start.Ok (i + 1) ∧ st.cs.length = n

set_option maxRecDepth 100000 in
set_option maxHeartbeats 2000000 in
theorem walk_all (n : Int) (ao : Option Addr) (len cap : Nat) (E : Nat → Ins) (ao2 : Option Addr) (len2 cap2 : Nat) (E2 : Nat → Ins) (aot : Option Addr) (lent capt : Nat) (T : Nat → Int) (w : World) (hn0 : 0 ≤ n) (hn1 : n ≤ 255)
    (hI : InsAt w (· < w.heap.size) ao len E) (hc : len ≤ cap) (hm : cap ≤ maxLen) (hI2 : InsAt w (· < w.heap.size) ao2 len2 E2) (hc2 : len2 ≤ cap2) (hm2 : cap2 ≤ maxLen) (hT : TurnsAt w aot lent T) (hlt : lent ≤ maxLen) :
    Calls Try.prog 7 #[.int .u8 n, .slice ao len cap, .slice ao2 len2 cap2, .slice aot lent capt] w fun e w' => e = .returned (.bool true) ∧ Below w.heap.size w w' := by
  have HI := Lib.hid hI
  have HI2 := Lib.hid hI2
  have HU := Lib.hid hI.v_u
  have HU2 := Lib.hid hI2.v_u
  have HCM := Lib.hid (And.intro hc hm)
  have HCM2 := Lib.hid (And.intro hc2 hm2)
  have HT := Lib.hid hT
  unfold maxLen at hlt
  clear hI hc hm hI2 hc2 hm2 hT
  go_enter Try.func7, Try.ntmps7
  go_wp2_with fail
  refine (new_int w (1 + n) (by omega) (by omega)).mono ?_; rintro e w1 ⟨rfl, hm1, hb1⟩
  obtain ⟨mb1, hmb1⟩ : ∃ mb, mb = w.heap.size + 1 := ⟨_, rfl⟩
  obtain ⟨cb1, hcb1⟩ : ∃ cb, cb = w.heap.size := ⟨_, rfl⟩
  rw [← hmb1] at hm1 ⊢
  rw [← hcb1] at hm1
  have hl1 : w.heap.size ≤ cb1 ∧ cb1 < mb1 ∧ mb1 < w1.heap.size := ⟨by omega, by omega, lt_of_heap hm1.rec_⟩
  have HM1 := Lib.hid hm1
  have HB := Lib.hid hb1
  have HL1 := Lib.hid hl1
  clear hm1 hb1 hmb1 hcb1 hl1
  go_wp2_with fail
  refine (new_int w1 (1 + n) (by omega) (by omega)).mono ?_; rintro e w2 ⟨rfl, hm2, hb2⟩
  obtain ⟨mb2, hmb2⟩ : ∃ mb, mb = w1.heap.size + 1 := ⟨_, rfl⟩
  obtain ⟨cb2, hcb2⟩ : ∃ cb, cb = w1.heap.size := ⟨_, rfl⟩
  rw [← hmb2] at hm2 ⊢
  rw [← hcb2] at hm2
  have hl2 : w.heap.size ≤ cb2 ∧ cb2 < mb2 ∧ mb2 < w2.heap.size := ⟨by have := HL1.out; omega, by omega, lt_of_heap hm2.rec_⟩
  have ho2 : mb1 < cb2 := by have := HL1.out; omega
  have HM1 := Lib.hid (HM1.out.below hb2)
  have HM2 := Lib.hid hm2
  have HB := Lib.hid (HB.out.trans (hb2.mono HB.out.size))
  have HL2 := Lib.hid hl2
  have HO2 := Lib.hid ho2
  clear hm2 hb2 hmb2 hcb2 hl2 ho2
  go_wp2_with fail
  refine (new_int w2 (1 + n) (by omega) (by omega)).mono ?_; rintro e w3 ⟨rfl, hm3, hb3⟩
  obtain ⟨mb3, hmb3⟩ : ∃ mb, mb = w2.heap.size + 1 := ⟨_, rfl⟩
  obtain ⟨cb3, hcb3⟩ : ∃ cb, cb = w2.heap.size := ⟨_, rfl⟩
  rw [← hmb3] at hm3 ⊢
  rw [← hcb3] at hm3
  have hl3 : w.heap.size ≤ cb3 ∧ cb3 < mb3 ∧ mb3 < w3.heap.size := ⟨by have := HL2.out; omega, by omega, lt_of_heap hm3.rec_⟩
  have ho3 : mb2 < cb3 := by have := HL2.out; omega
  have HM1 := Lib.hid (HM1.out.below hb3)
  have HM2 := Lib.hid (HM2.out.below hb3)
  have HM3 := Lib.hid hm3
  have HB := Lib.hid (HB.out.trans (hb3.mono HB.out.size))
  have HL3 := Lib.hid hl3
  have HO3 := Lib.hid ho3
  clear hm3 hb3 hmb3 hcb3 hl3 ho3
  go_wp2_with fail
  refine (fixed_any w3).mono ?_; rintro e w4 ⟨rfl, hb4⟩
  have HM1 := Lib.hid (HM1.out.below hb4)
  have HM2 := Lib.hid (HM2.out.below hb4)
  have HM3 := Lib.hid (HM3.out.below hb4)
  have HL4 := Lib.hid (show mb3 < w4.heap.size by have := hb4.size; have := HL3.out; omega)
  have HB := Lib.hid (HB.out.trans (hb4.mono HB.out.size))
  clear hb4
  go_wp2_with fail
  refine (new_run w4 mb1).mono ?_; rintro e w5 ⟨rfl, hr, hb⟩
  have HR1 := Lib.hid (RM.new HM1.out hb hr)
  have HM2 := Lib.hid (HM2.out.below hb)
  have HM3 := Lib.hid (HM3.out.below hb)
  obtain ⟨rb1, hrb⟩ : ∃ rb, rb = w4.heap.size := ⟨_, rfl⟩
  have HF1 := Lib.hid (show mb3 < rb1 ∧ rb1 < w5.heap.size from ⟨by rw [hrb]; exact HL4.out, by rw [hrb]; exact lt_of_heap hr.rec_⟩)
  rw [← hrb] at HR1 ⊢
  have HB := Lib.hid (HB.out.trans (hb.mono HB.out.size))
  clear hb hrb hr
  go_wp2_with fail
  refine (new_run w5 mb2).mono ?_; rintro e w6 ⟨rfl, hr, hb⟩
  have HR2 := Lib.hid (RM.new HM2.out hb hr)
  have HR1 := Lib.hid (HR1.out.below hb)
  have HM3 := Lib.hid (HM3.out.below hb)
  obtain ⟨rb2, hrb⟩ : ∃ rb, rb = w5.heap.size := ⟨_, rfl⟩
  have HF2 := Lib.hid (show rb1 < rb2 ∧ rb2 < w6.heap.size from ⟨by rw [hrb]; exact HF1.out.2, by rw [hrb]; exact lt_of_heap hr.rec_⟩)
  rw [← hrb] at HR2 ⊢
  have HB := Lib.hid (HB.out.trans (hb.mono HB.out.size))
  clear hb hrb hr
  go_wp2_with fail
  refine (new_run w6 mb3).mono ?_; rintro e w7 ⟨rfl, hr, hb⟩
  have HR3 := Lib.hid (RM.new HM3.out hb hr)
  have HR1 := Lib.hid (HR1.out.below hb)
  have HR2 := Lib.hid (HR2.out.below hb)
  obtain ⟨rb3, hrb⟩ : ∃ rb, rb = w6.heap.size := ⟨_, rfl⟩
  have HF3 := Lib.hid (show rb2 < rb3 ∧ rb3 < w7.heap.size from ⟨by rw [hrb]; exact HF2.out.2, by rw [hrb]; exact lt_of_heap hr.rec_⟩)
  rw [← hrb] at HR3 ⊢
  have HB := Lib.hid (HB.out.trans (hb.mono HB.out.size))
  clear hb hrb hr
  go_wp2_with fail
  have hR0 : Rel w (rb1, mb1, cb1) (rb2, mb2, cb2) (rb3, mb3, cb3) (1 + n).toNat (· < w.heap.size) ao (min len 60) E ao2 (min len2 60) E2 0 w7 := by
    have h1 := HL1.out
    have h2 := HL2.out
    have h3 := HL3.out
    have h4 := HO2.out
    have h5 := HO3.out
    have h6 := HF1.out
    have h7 := HF2.out
    have h8 := HF3.out
    have hf1 : ∀ k, Feet rb1 mb1 cb1 none k → k = rb1 ∨ k = mb1 ∨ k = cb1 := fun k hk => hk.elim .inl fun e => e.elim (fun e => by cases e) fun e => .inr e
    have hf2 : ∀ k, Feet rb2 mb2 cb2 none k → k = rb2 ∨ k = mb2 ∨ k = cb2 := fun k hk => hk.elim .inl fun e => e.elim (fun e => by cases e) fun e => .inr e
    have hf3 : ∀ k, Feet rb3 mb3 cb3 none k → k = rb3 ∨ k = mb3 ∨ k = cb3 := fun k hk => hk.elim .inl fun e => e.elim (fun e => by cases e) fun e => .inr e
    refine ⟨_, _, none, none, none, ⟨⟨HR1.out, HB.out, ?_, (HI.out.below HB.out).cut 60, ?_, ?_⟩, ⟨HR2.out, HB.out, ?_, (HI2.out.below HB.out).cut 60, ?_, ?_⟩, ⟨HR3.out, HB.out, ?_, (HI.out.below HB.out).cut 60, ?_, ?_⟩, ?_, ?_, ?_⟩, new_ok_st, new_ok_st, by simp⟩
    · intro k hk; have := hf1 k hk; omega
    · intro k hk e; have := hf1 k e; omega
    · intro k hk; exact Nat.lt_of_lt_of_le hk HB.out.size
    · intro k hk; have := hf2 k hk; omega
    · intro k hk e; have := hf2 k e; omega
    · intro k hk; exact Nat.lt_of_lt_of_le hk HB.out.size
    · intro k hk; have := hf3 k hk; omega
    · intro k hk e; have := hf3 k e; omega
    · intro k hk; exact Nat.lt_of_lt_of_le hk HB.out.size
    · intro k hk e; have := hf1 k hk; have := hf2 k e; omega
    · intro k hk e; have := hf1 k hk; have := hf3 k e; omega
    · intro k hk e; have := hf2 k hk; have := hf3 k e; omega
  have HR0 := Lib.hid hR0
  have HK := Lib.hid (show (1 + n).toNat ≤ 256 by omega)
  clear hR0 HR1 HR2 HR3 HF1 HF2 HF3 HL1 HL2 HL3 HL4 HO2 HO3 HM1 HM2 HM3 HB
  obtain ⟨kk, hkk⟩ : ∃ kk, kk = (1 + n).toNat := ⟨_, rfl⟩
  rw [← hkk] at HR0 HK
  clear hkk
  go_loopw [61] (fun i wr => ∃ i' : Nat, i' ≤ lent ∧ i' ≤ 151 ∧ i = .int .i64 i' ∧ Rel w (rb1, mb1, cb1) (rb2, mb2, cb2) (rb3, mb3, cb3) kk (· < w.heap.size) ao (min len 60) E ao2 (min len2 60) E2 i' wr) (fun i _ => lent - (intOf i).toNat)
  case atStart => exact ⟨0, by omega, by omega, rfl, HR0.out⟩
  case round =>
    clear HR0
    obtain ⟨i, hi, hi2, rfl, st, st2, g1, g2, g3, hC, hok, hok2, hcs⟩ := hrel
    have HC := Lib.hid hC
    have HOK := Lib.hid hok
    have HOK2 := Lib.hid hok2
    have HCS := Lib.hid hcs
    clear hC hok hok2 hcs
    by_cases hgo : i < lent ∧ i ≤ 150
    · obtain ⟨hlt2, hle⟩ := hgo
      obtain ⟨tb, toff, rfl, htb, htc, ht0, ht1⟩ := HT.out.cell i hlt2
      obtain ⟨tv, htv⟩ : ∃ tv, tv = T i := ⟨_, rfl⟩
      rw [← htv] at htc ht0 ht1
      have htc : wr.cell? ⟨tb, toff + i, none⟩ = some (.int .u8 tv) := ((HC.out.c1.low.cell (p := ⟨tb, toff + i, none⟩) htb)).trans htc
      clear htv htb
      have h150 : ¬ (150 : Int) < (i : Int) := by omega
      by_cases hev : tv % 2 = 0
      · have e1 : (tv % 2 == 0) = true := by simpa using hev
        clear hev
        go_wp2_with (go_at_call 11; refine (cut_any _ _ _ _ HCM2.out.1 HCM2.out.2).mono ?_; rintro e w' ⟨rfl, rfl⟩)
        refine (HC.out.prog2 cap2).mono ?_; rintro e w8 ⟨lb, rfl, hC, hL⟩
        have HC := Lib.hid hC
        have HLB := Lib.hid hL
        clear hC hL htc
        go_wp2_with fail
        refine (HC.out.step2 HLB.out (B := i + 1) (by omega) HOK2.out (by omega)).mono ?_; rintro e w9 ⟨rfl, go', hC⟩
        have HC := Lib.hid hC
        clear hC HLB
        go_wp2_with fail
        go_roundw
        case rel => exact ⟨i + 1, by omega, by omega, by go_num, st, _, g1, go', g3, HC.out, start_mono HOK.out (by omega), step_ok HU2.out _ HOK2.out, HCS.out⟩
        case measure => simp [intOf]; omega
      · have e1 : (tv % 2 == 0) = false := by simpa using hev
        clear hev
        go_wp2_with (go_at_call 11; refine (cut_any _ _ _ _ HCM.out.1 HCM.out.2).mono ?_; rintro e w' ⟨rfl, rfl⟩)
        refine (HC.out.prog1 cap).mono ?_; rintro e w8 ⟨lb, rfl, hC, hL⟩
        have HC := Lib.hid hC
        have HLB := Lib.hid hL
        clear hC hL htc
        go_wp2_with fail
        refine (HC.out.step1 HLB.out (B := i + 1) (by omega) HOK.out (by omega)).mono ?_; rintro e w9 ⟨rfl, go', hC⟩
        have HC := Lib.hid hC
        clear hC HLB
        go_wp2_with (go_at_call 11; refine (cut_any _ _ _ _ HCM.out.1 HCM.out.2).mono ?_; rintro e w' ⟨rfl, rfl⟩)
        refine (HC.out.prog3 cap).mono ?_; rintro e w10 ⟨lb3, rfl, hC, hL⟩
        have HC := Lib.hid hC
        have HLB := Lib.hid hL
        clear hC hL
        go_wp2_with fail
        refine (HC.out.step3 HLB.out (B := i + 1) (by omega) HOK.out (by omega)).mono ?_; rintro e w11 ⟨rfl, go3', hC⟩
        have HC := Lib.hid hC
        clear hC HLB
        go_wp2_with fail
        go_roundw
        case rel => exact ⟨i + 1, by omega, by omega, by go_num, _, st2, go', g2, go3', HC.out, step_ok HU.out _ HOK.out, start_mono HOK2.out (by omega), by rw [step_len]; exact HCS.out⟩
        case measure => simp [intOf]; omega
    · by_cases hlt2 : i < lent
      · obtain ⟨tb, toff, rfl, htb, htc, ht0, ht1⟩ := HT.out.cell i hlt2
        have htc : wr.cell? ⟨tb, toff + i, none⟩ = some (.int .u8 (T i)) := ((HC.out.c1.low.cell (p := ⟨tb, toff + i, none⟩) htb)).trans htc
        have h150 : (150 : Int) < (i : Int) := by omega
        clear htb ht0 ht1
        go_wp2_with fail
        refine (cells_at (cs := st.cs) HC.out.c1.rm.mem (by have := HCS.out; have := HK.out; omega)).mono ?_; rintro e w8 ⟨rfl, hg1, hb⟩
        have HC := Lib.hid (HC.out.below hb)
        obtain ⟨q1, hq1⟩ : ∃ q1, q1 = wr.heap.size := ⟨_, rfl⟩
        rw [← hq1] at hg1 ⊢
        have HG1 := Lib.hid hg1
        clear hg1 hb hq1
        go_wp2_with fail
        refine (cells_at (cs := st.cs) HC.out.c3.rm.mem (by have := HCS.out; have := HK.out; omega)).mono ?_; rintro e w9 ⟨rfl, hg2, hb⟩
        have HC := Lib.hid (HC.out.below hb)
        have HG1 := Lib.hid ((hb.block _ (lt_of_heap HG1.out)).trans HG1.out)
        obtain ⟨q2, hq2⟩ : ∃ q2, q2 = w8.heap.size := ⟨_, rfl⟩
        rw [← hq2] at hg2 ⊢
        have HG2 := Lib.hid hg2
        clear hg2 hb hq2
        go_wp2_with fail
        refine (same_eq w9 q1 q2 _ st.cs _ _ rfl (by have := HCS.out; have := HK.out; omega) HG1.out HG2.out).mono ?_; rintro e w10 ⟨rfl, hb⟩
        have HC := Lib.hid (HC.out.below hb)
        clear hb HG1 HG2
        obtain ⟨er, her⟩ : ∃ er, er = st.err := ⟨_, rfl⟩
        obtain ⟨cn, hcn⟩ : ∃ cn, cn = st.log.length := ⟨_, rfl⟩
        have k1 : Calls Try.prog 17 #[.pointer (some ⟨rb1, 0, none⟩)] w10 fun e w' => e = .returned (.int .i64 cn) ∧ w10 = w' := by rw [hcn]; obtain ⟨_, h⟩ := HC.out.c1.rm.run; exact count_at h
        have k2 : Calls Try.prog 17 #[.pointer (some ⟨rb3, 0, none⟩)] w10 fun e w' => e = .returned (.int .i64 cn) ∧ w10 = w' := by rw [hcn]; obtain ⟨_, h⟩ := HC.out.c3.rm.run; exact count_at h
        have k3 : Calls Try.prog 16 #[.pointer (some ⟨rb1, 0, none⟩)] w10 fun e w' => e = .returned (.int .i64 er) ∧ w10 = w' := by rw [her]; obtain ⟨_, h⟩ := HC.out.c1.rm.run; exact err_at h
        have k4 : Calls Try.prog 16 #[.pointer (some ⟨rb3, 0, none⟩)] w10 fun e w' => e = .returned (.int .i64 er) ∧ w10 = w' := by rw [her]; obtain ⟨_, h⟩ := HC.out.c3.rm.run; exact err_at h
        have HK1 := Lib.hid k1
        have HK2 := Lib.hid k2
        have HK3 := Lib.hid k3
        have HK4 := Lib.hid k4
        clear k1 k2 k3 k4 her hcn
        go_wp2_with fail
        refine HK1.out.mono ?_; rintro e w' ⟨rfl, rfl⟩
        go_wp2_with fail
        refine HK2.out.mono ?_; rintro e w' ⟨rfl, rfl⟩
        go_wp2_with fail
        refine HK3.out.mono ?_; rintro e w' ⟨rfl, rfl⟩
        go_wp2_with fail
        refine HK4.out.mono ?_; rintro e w' ⟨rfl, rfl⟩
        go_wp2_with fail
        go_ret
        exact ⟨rfl, HC.out.c1.low⟩
      · go_wp2_with fail
        refine (cells_at (cs := st.cs) HC.out.c1.rm.mem (by have := HCS.out; have := HK.out; omega)).mono ?_; rintro e w8 ⟨rfl, hg1, hb⟩
        have HC := Lib.hid (HC.out.below hb)
        obtain ⟨q1, hq1⟩ : ∃ q1, q1 = wr.heap.size := ⟨_, rfl⟩
        rw [← hq1] at hg1 ⊢
        have HG1 := Lib.hid hg1
        clear hg1 hb hq1
        go_wp2_with fail
        refine (cells_at (cs := st.cs) HC.out.c3.rm.mem (by have := HCS.out; have := HK.out; omega)).mono ?_; rintro e w9 ⟨rfl, hg2, hb⟩
        have HC := Lib.hid (HC.out.below hb)
        have HG1 := Lib.hid ((hb.block _ (lt_of_heap HG1.out)).trans HG1.out)
        obtain ⟨q2, hq2⟩ : ∃ q2, q2 = w8.heap.size := ⟨_, rfl⟩
        rw [← hq2] at hg2 ⊢
        have HG2 := Lib.hid hg2
        clear hg2 hb hq2
        go_wp2_with fail
        refine (same_eq w9 q1 q2 _ st.cs _ _ rfl (by have := HCS.out; have := HK.out; omega) HG1.out HG2.out).mono ?_; rintro e w10 ⟨rfl, hb⟩
        have HC := Lib.hid (HC.out.below hb)
        clear hb HG1 HG2
        obtain ⟨er, her⟩ : ∃ er, er = st.err := ⟨_, rfl⟩
        obtain ⟨cn, hcn⟩ : ∃ cn, cn = st.log.length := ⟨_, rfl⟩
        have k1 : Calls Try.prog 17 #[.pointer (some ⟨rb1, 0, none⟩)] w10 fun e w' => e = .returned (.int .i64 cn) ∧ w10 = w' := by rw [hcn]; obtain ⟨_, h⟩ := HC.out.c1.rm.run; exact count_at h
        have k2 : Calls Try.prog 17 #[.pointer (some ⟨rb3, 0, none⟩)] w10 fun e w' => e = .returned (.int .i64 cn) ∧ w10 = w' := by rw [hcn]; obtain ⟨_, h⟩ := HC.out.c3.rm.run; exact count_at h
        have k3 : Calls Try.prog 16 #[.pointer (some ⟨rb1, 0, none⟩)] w10 fun e w' => e = .returned (.int .i64 er) ∧ w10 = w' := by rw [her]; obtain ⟨_, h⟩ := HC.out.c1.rm.run; exact err_at h
        have k4 : Calls Try.prog 16 #[.pointer (some ⟨rb3, 0, none⟩)] w10 fun e w' => e = .returned (.int .i64 er) ∧ w10 = w' := by rw [her]; obtain ⟨_, h⟩ := HC.out.c3.rm.run; exact err_at h
        have HK1 := Lib.hid k1
        have HK2 := Lib.hid k2
        have HK3 := Lib.hid k3
        have HK4 := Lib.hid k4
        clear k1 k2 k3 k4 her hcn
        go_wp2_with fail
        refine HK1.out.mono ?_; rintro e w' ⟨rfl, rfl⟩
        go_wp2_with fail
        refine HK2.out.mono ?_; rintro e w' ⟨rfl, rfl⟩
        go_wp2_with fail
        refine HK3.out.mono ?_; rintro e w' ⟨rfl, rfl⟩
        go_wp2_with fail
        refine HK4.out.mono ?_; rintro e w' ⟨rfl, rfl⟩
        go_wp2_with fail
        go_ret
        exact ⟨rfl, HC.out.c1.low⟩
set_option linter.unusedVariables false in
theorem walk {H : Type} {enc : TypeId × Value → H} (W : World) (args : Array Value) (ds : List (DataW H)) (hin : ArgsIn enc Try.prog Try.f7.params.toList W args ds) :
    Calls Try.prog 7 args W fun e W' => e = .returned (.bool true) ∧ Below W.heap.size W W' := by
  obtain ⟨⟨p, hA, hlt⟩, ⟨base, hval⟩, hsz⟩ := hin
  rw [Try.params7] at hA hval hsz
  obtain ⟨v0, vs0, d0, ds0, p0, q0, hargs, rfl, rfl, h0, r0⟩ := trodAll_cons hA
  obtain ⟨v1, vs1, d1, ds1, p1, q1, rfl, rfl, rfl, h1, r1⟩ := trodAll_cons r0
  obtain ⟨v2, vs2, d2, ds2, p2, q2, rfl, rfl, rfl, h2, r2⟩ := trodAll_cons r1
  obtain ⟨v3, vs3, d3, ds3, p3, q3, rfl, rfl, rfl, h3, r3⟩ := trodAll_cons r2
  obtain ⟨rfl, rfl, rfl⟩ := trodAll_nil r3
  obtain rfl : args = #[v0, v1, v2, v3] := by cases args; simp_all
  obtain ⟨a0, rfl, rfl, rfl, w0⟩ := open_int Try.underlying5 (hval 0 5 v0 rfl rfl) h0
  obtain ⟨ao1,len1,cap1,E1,rfl,hI1,hc1,hm1⟩ := open_ins (hval 1 32 v1 rfl rfl) h1
  obtain ⟨ao2,len2,cap2,E2,rfl,hI2,hc2,hm2⟩ := open_ins (hval 2 32 v2 rfl rfl) h2
  obtain ⟨ao3,len3,cap3,T3,rfl,hT3,hl3⟩ := open_turns (hval 3 23 v3 rfl rfl) h3
  exact walk_all a0 ao1 len1 cap1 E1 ao2 len2 cap2 E2 ao3 len3 cap3 T3 W (u8_lo w0) (u8_hi w0) hI1 hc1 hm1 hI2 hc2 hm2 hT3 hl3

set_option maxRecDepth 100000 in
theorem proved : Rows.StepApartSaid :=
  OpenClaim.holds_of_wide 7 Try.f7 rfl rfl rfl rfl rfl rfl rfl ⟨rfl, rfl, rfl, rfl, rfl⟩ rfl rfl rfl rfl rfl (by kernel_rfl) Try.func7 (by kernel_rfl)
    (of_decide_eq_true (by kernel_rfl)) (by unfold Func.isWrapper; first | (rw [if_pos (by decide +kernel)]; kernel_rfl) | (rw [if_neg (by decide +kernel)]; exact ⟨rfl, rfl⟩))
    (fun os started H enc _ => law_lifted (s := Rows.stepApartSpec) own started (by kernel_rfl) Try.func7 laidOut (by kernel_rfl) (by kernel_rfl) Try.underlying4 rfl
      (ChangeSpec.witness6 (enc := enc) (C := Try.checked) false ⟨#[], #[.int .u8 0, .slice none 0 0, .slice none 0 0, .slice none 0 0], []⟩ 8 (by kernel_rfl) (by kernel_rfl) (by kernel_rfl) (by kernel_rfl))
      (fun ds h => match ds, h with | [_, _, _, _], _ => rfl) walk)
#print axioms proved
end Go.Proofs.Ytdmcnlkmfohmdaa.stepApart
