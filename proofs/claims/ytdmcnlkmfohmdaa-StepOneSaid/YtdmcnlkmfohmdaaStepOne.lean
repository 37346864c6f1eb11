/-
  A step makes at most one access, and a run's count is how many its memory was asked: for every memory up to 256 cells, every list of instructions and every number of steps, the law StepOne returns true and leaves its arguments alone.
-/
import Derived.Test.YtdmcnlkmfohmdaaStepArgs
import Derived.Test.YtdmcnlkmfohmdaaStepPureB
import Derived.Test.YtdmcnlkmfohmdaaFrame
namespace Go.Proofs.Ytdmcnlkmfohmdaa.stepOne
open Go.ChangeShapes Go.WideShapes Go.ChangeAt Go.RowKit Go.Deep

/-- Behind so many steps. -/
def Rel (W : World) (rb mb cb : Nat) (D : Nat → Prop) (ao : Option Addr) (len : Nat) (E : Nat → Ins) (i : Nat) (wr : World) : Prop :=
  ∃ (st : St) (go : Option Nat), Ctx W wr rb mb cb go st D ao len E ∧ st.start.Ok (i + 1) ∧ st.l + st.s = st.log.length

set_option maxRecDepth 100000 in
set_option maxHeartbeats 1000000 in
theorem walk_all (n : Int) (ao : Option Addr) (len cap : Nat) (E : Nat → Ins) (k : Int) (w : World) (hn0 : 0 ≤ n) (hn1 : n ≤ 255) (hk0 : 0 ≤ k) (hk1 : k ≤ 255) (hI : InsAt w (· < w.heap.size) ao len E) (hc : len ≤ cap) (hm : cap ≤ maxLen) :
    Calls Try.prog 4 #[.int .u8 n, .slice ao len cap, .int .u8 k] w fun e w' => e = .returned (.bool true) ∧ Below w.heap.size w w' := by
  have HI := Lib.hid hI
  have HU := Lib.hid hI.v_u
  have HCM := Lib.hid (And.intro hc hm)
  obtain ⟨kn, rfl⟩ := Int.eq_ofNat_of_zero_le hk0
  clear hI hc hm
  go_enter Try.func4, Try.ntmps4
  go_wp2_with fail
  refine (new_int w (1 + n) (by omega) (by omega)).mono ?_; rintro e w1 ⟨rfl, hm1, hb1⟩
  obtain ⟨mb, hmb⟩ : ∃ mb, mb = w.heap.size + 1 := ⟨_, rfl⟩
  obtain ⟨cb, hcb⟩ : ∃ cb, cb = w.heap.size := ⟨_, rfl⟩
  rw [← hmb] at hm1 ⊢
  rw [← hcb] at hm1
  have HM := Lib.hid hm1
  have HB := Lib.hid hb1
  have HC := Lib.hid (And.intro hmb hcb)
  clear hm1 hb1 hmb hcb
  go_wp2_with fail
  refine (new_run w1 mb).mono ?_; rintro e w2 ⟨rfl, hr2, hb2⟩
  have HR := Lib.hid (RM.new HM.out hb2 hr2)
  have HB := Lib.hid (And.intro HB.out.size (HB.out.trans (hb2.mono HB.out.size)))
  obtain ⟨rb, hrb⟩ : ∃ rb, rb = w1.heap.size := ⟨_, rfl⟩
  rw [← hrb] at HR ⊢
  have HRB := Lib.hid hrb
  clear hr2 hb2 hrb HM
  go_wp2_with fail
  refine (fixed_any w2).mono ?_; rintro e w3 ⟨rfl, hb3⟩
  have hR0 : Rel w rb mb cb (· < w.heap.size) ao (min len 60) E 0 w3 := by
    have hw : Below w.heap.size w w3 := HB.out.2.trans (hb3.mono HB.out.2.size)
    have hf : ∀ k, Feet rb mb cb none k → w.heap.size ≤ k := by
      obtain ⟨h1, h2⟩ := HC.out
      have h3 := HRB.out
      have h4 := HB.out.1
      rintro k (e | e | e | e)
      · omega
      · cases e
      · omega
      · omega
    refine ⟨_, none, ⟨HR.out.below hb3, hw, hf, (HI.out.below hw).cut 60, fun k hk e => by have := hf k e; omega, fun k hk => Nat.lt_of_lt_of_le hk hw.size⟩, new_ok_st, by simp⟩
  have HR0 := Lib.hid hR0
  clear hR0 hb3 HR HB HC HRB HI
  go_wp2_with fail
  go_loopw [34] (fun i wr => ∃ i' : Nat, i' ≤ kn ∧ i = .int .i64 i' ∧ Rel w rb mb cb (· < w.heap.size) ao (min len 60) E i' wr) (fun i _ => kn - (intOf i).toNat)
  case atStart => exact ⟨0, by omega, rfl, HR0.out⟩
  case round =>
    clear HR0
    obtain ⟨i, hi, rfl, st, go, hC, hok, hcnt⟩ := hrel
    have HOK := Lib.hid hok
    have HCN := Lib.hid hcnt
    by_cases hlt : i < kn
    · have HCX := Lib.hid hC
      have hmem := hC.rm.mem
      obtain ⟨cap1, hrun⟩ := hC.rm.run
      obtain ⟨hl0, hs0, hls⟩ : 0 ≤ st.l ∧ 0 ≤ st.s ∧ st.l + st.s ≤ 300 := ⟨hok.l0, hok.s0, by have := hok.sum; simp [St.start] at this; omega⟩
      obtain ⟨hx1, hx2, hx3⟩ := step_cnt E (min len 60) hcnt
      have HOV := Lib.hid (step_over_eq E (min len 60) (st := st))
      have HS := Lib.hid (step_ok HU.out (min len 60) hok)
      obtain ⟨st', hst'⟩ : ∃ st', st' = st.step E (min len 60) := ⟨_, rfl⟩
      rw [← hst'] at hx1 hx2 hx3 HOV HS
      have HST := Lib.hid hst'
      have HMX := Lib.hid hmem
      have HRX := Lib.hid hrun
      obtain ⟨l, hl⟩ : ∃ l, l = st.l := ⟨_, rfl⟩
      obtain ⟨s, hs⟩ : ∃ s, s = st.s := ⟨_, rfl⟩
      obtain ⟨l', hl'⟩ : ∃ l', l' = st'.l := ⟨_, rfl⟩
      obtain ⟨s', hs'⟩ : ∃ s', s' = st'.s := ⟨_, rfl⟩
      obtain ⟨c', hc'⟩ : ∃ c', c' = st'.log.length := ⟨_, rfl⟩
      have hq0 : 0 ≤ st'.l ∧ 0 ≤ st'.s := ⟨HS.out.l0, HS.out.s0⟩
      rw [← hl, ← hs] at hls hx2 hx3 
      rw [← hl] at hl0
      rw [← hs] at hs0
      rw [← hl', ← hs'] at hx1 hx2 hx3 hq0
      rw [← hc'] at hx1
      obtain ⟨hq1, hq2⟩ := hq0
      have hne : ((l' + s' : Int) != (c' : Int)) = false := by simp [hx1]
      have HQ := Lib.hid (And.intro hx1 (And.intro hl (And.intro hs (And.intro hl' (And.intro hs' hc')))))
      obtain ⟨ov, hov⟩ : ∃ ov, ov = st.over := ⟨_, rfl⟩
      have hno : ov = true → ((l' + s' : Int) != l + s) = false := by
        intro h
        have := HOV.out (hov ▸ h)
        simp [hl, hs, hl', hs', this]
      have HOVX := Lib.hid hov
      clear hC hok hcnt hst' hmem hrun hx1 hl hs hl' hs' hc' hov
      have h1 : Calls Try.prog 20 #[.pointer (some ⟨mb, 0, none⟩)] wr fun e w' => e = .returned (.int .i64 l) ∧ wr = w' := by rw [HQ.out.2.1]; exact loads_at HMX.out
      have h2 : Calls Try.prog 21 #[.pointer (some ⟨mb, 0, none⟩)] wr fun e w' => e = .returned (.int .i64 s) ∧ wr = w' := by rw [HQ.out.2.2.1]; exact stores_at HMX.out
      have h3 : Calls Try.prog 15 #[.pointer (some ⟨rb, 0, none⟩)] wr fun e w' => e = .returned (.bool ov) ∧ wr = w' := by rw [HOVX.out]; exact over_at HRX.out
      have H1 := Lib.hid h1
      have H2 := Lib.hid h2
      have H3 := Lib.hid h3
      clear h1 h2 h3
      cases ov
      all_goals
        try have hno := hno rfl
        go_wp2_with (first
          | (go_at_call 20; refine H1.out.mono ?_; rintro e w' ⟨rfl, rfl⟩)
          | (go_at_call 21; refine H2.out.mono ?_; rintro e w' ⟨rfl, rfl⟩)
          | (go_at_call 15; refine H3.out.mono ?_; rintro e w' ⟨rfl, rfl⟩)
          | (go_at_call 11; refine (cut_any _ _ _ _ HCM.out.1 HCM.out.2).mono ?_; rintro e w' ⟨rfl, rfl⟩; clear H1 H2 H3))
        refine (HCX.out.program cap).mono ?_; rintro e w4 ⟨lb, rfl, hC, hL, _⟩
        have HCX := Lib.hid hC
        have HL := Lib.hid hL
        clear hC hL
        go_wp2_with fail
        refine (HCX.out.step HL.out (B := i + 1) (by omega) HOK.out (by omega)).mono ?_
        rw [← HST.out]
        rintro e w5 ⟨rfl, go5, hC, _⟩
        have h1 : Calls Try.prog 20 #[.pointer (some ⟨mb, 0, none⟩)] w5 fun e w' => e = .returned (.int .i64 l') ∧ w5 = w' := by rw [HQ.out.2.2.2.1]; exact loads_at hC.rm.mem
        have h2 : Calls Try.prog 21 #[.pointer (some ⟨mb, 0, none⟩)] w5 fun e w' => e = .returned (.int .i64 s') ∧ w5 = w' := by rw [HQ.out.2.2.2.2.1]; exact stores_at hC.rm.mem
        have h3 : Calls Try.prog 17 #[.pointer (some ⟨rb, 0, none⟩)] w5 fun e w' => e = .returned (.int .i64 c') ∧ w5 = w' := by rw [HQ.out.2.2.2.2.2]; obtain ⟨_, h⟩ := hC.rm.run; exact count_at h
        have HCX := Lib.hid hC
        have H1 := Lib.hid h1
        have H2 := Lib.hid h2
        have H3 := Lib.hid h3
        clear hC HL h1 h2 h3
        go_wp2_with (first
          | (go_at_call 20; refine H1.out.mono ?_; rintro e w' ⟨rfl, rfl⟩)
          | (go_at_call 21; refine H2.out.mono ?_; rintro e w' ⟨rfl, rfl⟩)
          | (go_at_call 17; refine H3.out.mono ?_; rintro e w' ⟨rfl, rfl⟩))
        go_roundw
        case rel => exact ⟨i + 1, by omega, by go_num, st', go5, HCX.out, HS.out, by have := HQ.out; rw [← this.2.2.2.1, ← this.2.2.2.2.1, this.1, this.2.2.2.2.2]⟩
        case measure => simp [intOf]; omega
    · go_wp2_with fail
      go_ret
      exact ⟨rfl, hC.low⟩
set_option linter.unusedVariables false in
theorem walk {H : Type} {enc : TypeId × Value → H} (W : World) (args : Array Value) (ds : List (DataW H)) (hin : ArgsIn enc Try.prog Try.f4.params.toList W args ds) :
    Calls Try.prog 4 args W fun e W' => e = .returned (.bool true) ∧ Below W.heap.size W W' := by
  obtain ⟨⟨p, hA, hlt⟩, ⟨base, hval⟩, hsz⟩ := hin
  rw [Try.params4] at hA hval hsz
  obtain ⟨v0, vs0, d0, ds0, p0, q0, hargs, rfl, rfl, h0, r0⟩ := trodAll_cons hA
  obtain ⟨v1, vs1, d1, ds1, p1, q1, rfl, rfl, rfl, h1, r1⟩ := trodAll_cons r0
  obtain ⟨v2, vs2, d2, ds2, p2, q2, rfl, rfl, rfl, h2, r2⟩ := trodAll_cons r1
  obtain ⟨rfl, rfl, rfl⟩ := trodAll_nil r2
  obtain rfl : args = #[v0, v1, v2] := by cases args; simp_all
  obtain ⟨a0, rfl, rfl, rfl, w0⟩ := open_int Try.underlying5 (hval 0 5 v0 rfl rfl) h0
  obtain ⟨ao1,len1,cap1,E1,rfl,hI1,hc1,hm1⟩ := open_ins (hval 1 32 v1 rfl rfl) h1
  obtain ⟨a2, rfl, rfl, rfl, w2⟩ := open_int Try.underlying5 (hval 2 5 v2 rfl rfl) h2
  exact walk_all a0 ao1 len1 cap1 E1 a2 W (u8_lo w0) (u8_hi w0) (u8_lo w2) (u8_hi w2) hI1 hc1 hm1

set_option maxRecDepth 100000 in
theorem proved : Rows.StepOneSaid :=
  OpenClaim.holds_of_wide 4 Try.f4 rfl rfl rfl rfl rfl rfl rfl ⟨rfl, rfl, rfl, rfl, rfl⟩ rfl rfl rfl rfl rfl (by kernel_rfl) Try.func4 (by kernel_rfl)
    (of_decide_eq_true (by kernel_rfl)) (by unfold Func.isWrapper; first | (rw [if_pos (by decide +kernel)]; kernel_rfl) | (rw [if_neg (by decide +kernel)]; exact ⟨rfl, rfl⟩))
    (fun os started H enc _ => law_lifted (s := Rows.stepOneSpec) own started (by kernel_rfl) Try.func4 laidOut (by kernel_rfl) (by kernel_rfl) Try.underlying4 rfl
      (ChangeSpec.witness6 (enc := enc) (C := Try.checked) false ⟨#[], #[.int .u8 0, .slice none 0 0, .int .u8 0], []⟩ 8 (by kernel_rfl) (by kernel_rfl) (by kernel_rfl) (by kernel_rfl))
      (fun ds h => match ds, h with | [_, _, _], _ => rfl) walk)
#print axioms proved
end Go.Proofs.Ytdmcnlkmfohmdaa.stepOne
