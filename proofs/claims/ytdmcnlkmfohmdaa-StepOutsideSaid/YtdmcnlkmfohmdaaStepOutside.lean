/-
  An access where there is no cell ends a program, and nothing is stored by it: for every number of cells up to 256, every address outside of them and every number, the law StepOutside returns true and leaves its arguments alone.
-/
import Derived.Test.YtdmcnlkmfohmdaaStepFixed
import Derived.Test.YtdmcnlkmfohmdaaArgs
import Derived.Test.YtdmcnlkmfohmdaaFrame
namespace Go.Proofs.Ytdmcnlkmfohmdaa.stepOutside
open Go.ChangeShapes Go.WideShapes Go.ChangeAt Go.RowKit Go.Deep

/-- The law's list. -/
def outE (x : Ins) (i : Nat) : Ins := [⟨1, 0, 7⟩, x, ⟨1, 0, 8⟩].getD i default
def st0 (n : Nat) : St := ⟨[], 0, false, false, false, 0, List.replicate n 0, 0, 0⟩
def st1 (n : Nat) : St := ⟨[0], 1, true, false, false, 0, (List.replicate n 0).set 0 7, 0, 1⟩
def st2 (n : Nat) : St := ⟨[0], 1, true, true, true, 2, (List.replicate n 0).set 0 7, 0, 1⟩
theorem step_1 {n : Nat} {x : Ins} (hn : 1 ≤ n) (hx : x.op = 0 ∨ x.op = 1) : (st0 n).step (outE x) 3 = st1 n := by
  have e : okAt n 0 = true := okAt_yes (by omega) (by omega)
  rcases hx with hx | hx <;> simp [St.step, progN, st0, st1, outE, St.store, St.load, e, hx]
theorem step_2 {n : Nat} {x : Ins} (hx : x.op = 0 ∨ x.op = 1) (ha : x.a < 0 ∨ (n : Int) ≤ x.a) : (st1 n).step (outE x) 3 = st2 n := by
  have e : okAt n x.a = false := okAt_no ha
  rcases hx with hx | hx <;> simp [St.step, progN, st1, st2, outE, St.store, St.load, addrOf, e, hx]
theorem first7 {n : Nat} (h : 1 ≤ n) : ((List.replicate n (0 : Int)).set 0 7)[0]? = some 7 := by
  rw [List.getElem?_set_self (by simp; omega)]
/-- The state behind a load of the first cell. -/
def st3 (n : Nat) : St := ⟨[0], 1, true, true, true, 2, (List.replicate n 0).set 0 7, 0 + 1, 1⟩
theorem step_3 {n : Nat} {E : Nat → Ins} : (st3 n).step E 3 = st3 n := by simp [St.step, st3]
theorem ok_3 (n : Nat) : ({ st3 n with at_ := 0, made := false } : St).Ok 100 := by
  refine ⟨by simp [st3], by simp [st3], by simp [st3], by simp [st3], by simp [st3], by simp [st3, U], ?_⟩
  intro x hx
  rcases List.mem_or_eq_of_mem_set hx with hx | hx
  · simp at hx; rw [hx.2]; exact u_zero
  · rw [hx]; exact ⟨by omega, by omega⟩
theorem ok_0 (n : Nat) : ({ st0 n with at_ := 0, made := false } : St).Ok 100 := by
  refine ⟨by simp [st0], by simp [st0], by simp [st0], by simp [st0], by simp [st0], by simp [st0], ?_⟩
  intro x hx
  simp [st0] at hx
  rw [hx.2]; exact u_zero
theorem ok_1 (n : Nat) : ({ st1 n with at_ := 0, made := false } : St).Ok 100 := by
  refine ⟨by simp [st1], by simp [st1], by simp [st1], by simp [st1], by simp [st1], by simp [st1, U], ?_⟩
  intro x hx
  rcases List.mem_or_eq_of_mem_set hx with hx | hx
  · simp at hx; rw [hx.2]; exact u_zero
  · rw [hx]; exact ⟨by omega, by omega⟩
theorem outIns {w : World} {ib : Nat} {op a v : Int} (hv : U v) (h : w.heap[ib]? = some (.cells #[.int .i64 1, .int .i64 0, .int .u32 7, .int .i64 op, .int .i64 a, .int .u32 v, .int .i64 1, .int .i64 0, .int .u32 8] 51 (0, 0))) : InsAt w (· = ib) (some ⟨ib, 0, none⟩) 3 (outE ⟨op, a, v⟩) := by
  refine ⟨fun i hi => ⟨ib, 0, rfl, rfl, lt_of_heap h, ?_⟩, ?_⟩
  · rcases i with _ | _ | _ | i
    · exact ⟨cell_at h _, cell_at h _, cell_at h _⟩
    · exact ⟨cell_at h _, cell_at h _, cell_at h _⟩
    · exact ⟨cell_at h _, cell_at h _, cell_at h _⟩
    · omega
  · intro i
    rcases i with _ | _ | _ | i
    · exact ⟨by simp [outE], by simp [outE]⟩
    · exact hv
    · exact ⟨by simp [outE], by simp [outE]⟩
    · exact ⟨by simp [outE, default], by simp [outE, default]⟩

set_option maxRecDepth 100000 in
set_option maxHeartbeats 1000000 in
theorem walk_inside (n a v : Int) (store : Bool) (w : World) (hn0 : 0 ≤ n) (hn1 : n ≤ 255) (ha0 : 0 ≤ a) (ha1 : a < 1 + n) :
    Calls Try.prog 6 #[.int .u8 n, .int .i64 a, .int .u32 v, .bool store] w fun e w' => e = .returned (.bool true) ∧ Below w.heap.size w w' := by
  go_enter Try.func6, Try.ntmps6
  go_wp2_with fail
  refine (new_int w (1 + n) (by omega) (by omega)).mono ?_; rintro e w1 ⟨rfl, hm1, hb1⟩
  have HB := Lib.hid hb1
  clear hm1 hb1
  go_wp2_with fail
  refine (new_run w1 _).mono ?_; rintro e w2 ⟨rfl, hr2, hb2⟩
  have HB := Lib.hid (HB.out.trans (hb2.mono HB.out.size))
  clear hr2 hb2
  go_wp2_with fail
  refine (fixed_any w2).mono ?_; rintro e w3 ⟨rfl, hb3⟩
  have HB := Lib.hid (HB.out.trans (hb3.mono HB.out.size))
  clear hb3
  go_wp2_with fail
  go_ret
  exact ⟨rfl, HB.out⟩

set_option maxRecDepth 100000 in
set_option maxHeartbeats 2000000 in
theorem walk_load (n a v : Int) (w : World) (hn0 : 0 ≤ n) (hn1 : n ≤ 255) (hv : U v) (ha : a < 0 ∨ 1 + n ≤ a) :
    Calls Try.prog 6 #[.int .u8 n, .int .i64 a, .int .u32 v, .bool false] w fun e w' => e = .returned (.bool true) ∧ Below w.heap.size w w' := by
  have HV := Lib.hid hv
  have HA := Lib.hid ha
  obtain ⟨t0, ht0⟩ : ∃ t0 : Bool, decide (0 ≤ a) = t0 := ⟨_, rfl⟩
  have hg : t0 = true → decide (a < 1 + n) = false := by rintro rfl; simp at ht0; simp; omega
  clear hv ha
  cases t0
  all_goals
    try have hg := hg rfl
    go_enter Try.func6, Try.ntmps6
    go_wp2_with fail
    refine (new_int w (1 + n) (by omega) (by omega)).mono ?_; rintro e w1 ⟨rfl, hm1, hb1⟩
    obtain ⟨mb, hmb⟩ : ∃ mb, mb = w.heap.size + 1 := ⟨_, rfl⟩
    obtain ⟨cb, hcb⟩ : ∃ cb, cb = w.heap.size := ⟨_, rfl⟩
    rw [← hmb] at hm1 ⊢
    rw [← hcb] at hm1
    have HM := Lib.hid hm1
    have HB := Lib.hid hb1
    have HC := Lib.hid (And.intro hmb hcb)
    clear hm1 hb1 hmb hcb
    go_wp2_with fail
    refine (new_run w1 mb).mono ?_; rintro e w2 ⟨rfl, hr2, hb2⟩
    have HR := Lib.hid (RM.new HM.out hb2 hr2)
    have HB := Lib.hid (And.intro HB.out.size (HB.out.trans (hb2.mono HB.out.size)))
    obtain ⟨rb, hrb⟩ : ∃ rb, rb = w1.heap.size := ⟨_, rfl⟩
    rw [← hrb] at HR ⊢
    have HRB := Lib.hid hrb
    clear hr2 hb2 hrb HM
    go_wp2_with fail
    refine (fixed_any w2).mono ?_; rintro e w3 ⟨rfl, hb3⟩
    have HR := Lib.hid (HR.out.below hb3)
    have HB := Lib.hid (And.intro HB.out.1 (HB.out.2.trans (hb3.mono HB.out.2.size)))
    clear hb3
    obtain ⟨kk, hkk⟩ : ∃ kk : Nat, kk = (1 + n).toNat := ⟨_, rfl⟩
    rw [← hkk] at HR
    have HK := Lib.hid (show 1 ≤ kk ∧ (kk : Int) = 1 + n by omega)
    clear hkk
    go_upto_region 12 with fail
    obtain ⟨wx, hwx⟩ : ∃ wx, wx = (w3.alloc (.cells #[.int .i64 0, .int .i64 a, .int .u32 0] 51)).alloc (.cells #[.int .i64 1, .int .i64 0, .int .u32 7, .int .i64 0, .int .i64 a, .int .u32 0, .int .i64 1, .int .i64 0, .int .u32 8] 51) := ⟨_, rfl⟩
    rw [show (w3.alloc (.cells #[.int .i64 0, .int .i64 a, .int .u32 0] 51)).alloc (.cells #[.int .i64 1, .int .i64 0, .int .u32 7, .int .i64 0, .int .i64 a, .int .u32 0, .int .i64 1, .int .i64 0, .int .u32 8] 51) = wx from hwx.symm]
    have hbx : Below w3.heap.size w3 wx := by rw [hwx]; exact below_al2
    have hI := outIns (ib := w3.heap.size + 1) (w := wx) u_zero (by rw [hwx]; exact heap2_1 w3 _ _)
    have hC : Ctx w wx rb mb cb none (st0 kk) (· = w3.heap.size + 1) (some ⟨w3.heap.size + 1, 0, none⟩) 3 (outE ⟨0, a, 0⟩) := by
      have hf : ∀ k, Feet rb mb cb none k → w.heap.size ≤ k := by
        obtain ⟨h1, h2⟩ := HC.out
        have h3 := HRB.out
        have h4 := HB.out.1
        rintro k (e | e | e | e)
        · omega
        · cases e
        · omega
        · omega
      refine ⟨HR.out.below hbx, HB.out.2.trans (hbx.mono HB.out.2.size), hf, hI, ?_, ?_⟩
      · rintro k rfl hk
        have := HR.out.lt _ hk
        omega
      · rintro k rfl
        rw [hwx]; simp
    have HCX := Lib.hid hC
    obtain ⟨ib, hib⟩ : ∃ ib, ib = w3.heap.size + 1 := ⟨_, rfl⟩
    rw [← hib] at HCX ⊢
    clear hC hI hbx hwx hib HR HRB HC HB
    go_wp2_with fail
    refine (HCX.out.program 3).mono ?_; rintro e w4 ⟨lb, rfl, hC, hL, _⟩
    have HCX := Lib.hid hC
    have HL := Lib.hid hL
    clear hC hL
    go_wp2_with fail
    refine (HCX.out.step HL.out (B := 100) (by omega) (ok_0 kk) (by omega)).mono ?_
    rw [step_1 HK.out.1 (by simp)]
    rintro e w5 ⟨rfl, go5, hC, _⟩
    have HCX := Lib.hid hC
    clear hC HL
    go_wp2_with fail
    refine (HCX.out.program 3).mono ?_; rintro e w6 ⟨lb2, rfl, hC, hL, _⟩
    have HCX := Lib.hid hC
    have HL := Lib.hid hL
    clear hC hL
    go_wp2_with fail
    refine (HCX.out.step HL.out (B := 100) (by omega) (ok_1 kk) (by omega)).mono ?_
    rw [step_2 (n := kk) (x := ⟨0, a, 0⟩) (by simp) (by have := HK.out.2; have := HA.out; show a < 0 ∨ (kk : Int) ≤ a; omega)]
    rintro e w7 ⟨rfl, go7, hC, _⟩
    have hm := hC.rm.mem
    have HCX := Lib.hid hC
    clear hC HL
    go_wp2_with fail
    refine (load_z hm 0 7 (first7 HK.out.1) (by simp [st2]) (by simp [st2])).mono ?_; rintro e w8 ⟨rfl, hm8, hx8⟩
    obtain ⟨hC, _⟩ := HCX.out.turn hm8 hx8 (fun k hk => .inl hk)
    obtain ⟨cap8, h8⟩ := hC.rm.run
    have HM8 := Lib.hid hm8
    have H8 := Lib.hid h8
    have HCX := Lib.hid (show Ctx w w8 rb mb cb go7 (st3 kk) (· = ib) (some ⟨ib, 0, none⟩) 3 (outE ⟨0, a, 0⟩) from hC)
    clear hC hm hm8 hx8 h8
    go_wp2_with (go_at_call 16; refine (err_at H8.out).mono ?_; rintro e w9 ⟨rfl, rfl⟩; clear H8)
    refine (stores_at HM8.out).mono ?_; rintro e w9 ⟨rfl, rfl⟩
    go_wp2_with fail
    refine (HCX.out.program 3).mono ?_; rintro e w10 ⟨lb3, rfl, hC, hL, _⟩
    have HCX := Lib.hid hC
    have HL := Lib.hid hL
    clear hC hL
    go_wp2_with fail
    refine (HCX.out.step HL.out (B := 100) (by omega) (ok_3 kk) (by omega)).mono ?_
    rw [step_3]
    rintro e w11 ⟨rfl, go11, hC, _⟩
    have hm := hC.rm.mem
    have HCX := Lib.hid hC
    clear hC HL
    go_wp2_with fail
    refine (stores_at hm).mono ?_; rintro e w12 ⟨rfl, rfl⟩
    clear hm
    go_wp2_with fail
    go_ret
    exact ⟨rfl, HCX.out.low⟩
set_option maxRecDepth 100000 in
set_option maxHeartbeats 2000000 in
theorem walk_store (n a v : Int) (w : World) (hn0 : 0 ≤ n) (hn1 : n ≤ 255) (hv : U v) (ha : a < 0 ∨ 1 + n ≤ a) :
    Calls Try.prog 6 #[.int .u8 n, .int .i64 a, .int .u32 v, .bool true] w fun e w' => e = .returned (.bool true) ∧ Below w.heap.size w w' := by
  have HV := Lib.hid hv
  have HA := Lib.hid ha
  obtain ⟨t0, ht0⟩ : ∃ t0 : Bool, decide (0 ≤ a) = t0 := ⟨_, rfl⟩
  have hg : t0 = true → decide (a < 1 + n) = false := by rintro rfl; simp at ht0; simp; omega
  clear hv ha
  cases t0
  all_goals
    try have hg := hg rfl
    go_enter Try.func6, Try.ntmps6
    go_wp2_with fail
    refine (new_int w (1 + n) (by omega) (by omega)).mono ?_; rintro e w1 ⟨rfl, hm1, hb1⟩
    obtain ⟨mb, hmb⟩ : ∃ mb, mb = w.heap.size + 1 := ⟨_, rfl⟩
    obtain ⟨cb, hcb⟩ : ∃ cb, cb = w.heap.size := ⟨_, rfl⟩
    rw [← hmb] at hm1 ⊢
    rw [← hcb] at hm1
    have HM := Lib.hid hm1
    have HB := Lib.hid hb1
    have HC := Lib.hid (And.intro hmb hcb)
    clear hm1 hb1 hmb hcb
    go_wp2_with fail
    refine (new_run w1 mb).mono ?_; rintro e w2 ⟨rfl, hr2, hb2⟩
    have HR := Lib.hid (RM.new HM.out hb2 hr2)
    have HB := Lib.hid (And.intro HB.out.size (HB.out.trans (hb2.mono HB.out.size)))
    obtain ⟨rb, hrb⟩ : ∃ rb, rb = w1.heap.size := ⟨_, rfl⟩
    rw [← hrb] at HR ⊢
    have HRB := Lib.hid hrb
    clear hr2 hb2 hrb HM
    go_wp2_with fail
    refine (fixed_any w2).mono ?_; rintro e w3 ⟨rfl, hb3⟩
    have HR := Lib.hid (HR.out.below hb3)
    have HB := Lib.hid (And.intro HB.out.1 (HB.out.2.trans (hb3.mono HB.out.2.size)))
    clear hb3
    obtain ⟨kk, hkk⟩ : ∃ kk : Nat, kk = (1 + n).toNat := ⟨_, rfl⟩
    rw [← hkk] at HR
    have HK := Lib.hid (show 1 ≤ kk ∧ (kk : Int) = 1 + n by omega)
    clear hkk
    go_upto_region 12 with fail
    obtain ⟨wx, hwx⟩ : ∃ wx, wx = (w3.alloc (.cells #[.int .i64 1, .int .i64 a, .int .u32 v] 51)).alloc (.cells #[.int .i64 1, .int .i64 0, .int .u32 7, .int .i64 1, .int .i64 a, .int .u32 v, .int .i64 1, .int .i64 0, .int .u32 8] 51) := ⟨_, rfl⟩
    rw [show (w3.alloc (.cells #[.int .i64 1, .int .i64 a, .int .u32 v] 51)).alloc (.cells #[.int .i64 1, .int .i64 0, .int .u32 7, .int .i64 1, .int .i64 a, .int .u32 v, .int .i64 1, .int .i64 0, .int .u32 8] 51) = wx from hwx.symm]
    have hbx : Below w3.heap.size w3 wx := by rw [hwx]; exact below_al2
    have hI := outIns (ib := w3.heap.size + 1) (w := wx) HV.out (by rw [hwx]; exact heap2_1 w3 _ _)
    have hC : Ctx w wx rb mb cb none (st0 kk) (· = w3.heap.size + 1) (some ⟨w3.heap.size + 1, 0, none⟩) 3 (outE ⟨1, a, v⟩) := by
      have hf : ∀ k, Feet rb mb cb none k → w.heap.size ≤ k := by
        obtain ⟨h1, h2⟩ := HC.out
        have h3 := HRB.out
        have h4 := HB.out.1
        rintro k (e | e | e | e)
        · omega
        · cases e
        · omega
        · omega
      refine ⟨HR.out.below hbx, HB.out.2.trans (hbx.mono HB.out.2.size), hf, hI, ?_, ?_⟩
      · rintro k rfl hk
        have := HR.out.lt _ hk
        omega
      · rintro k rfl
        rw [hwx]; simp
    have HCX := Lib.hid hC
    obtain ⟨ib, hib⟩ : ∃ ib, ib = w3.heap.size + 1 := ⟨_, rfl⟩
    rw [← hib] at HCX ⊢
    clear hC hI hbx hwx hib HR HRB HC HB
    go_wp2_with fail
    refine (HCX.out.program 3).mono ?_; rintro e w4 ⟨lb, rfl, hC, hL, _⟩
    have HCX := Lib.hid hC
    have HL := Lib.hid hL
    clear hC hL
    go_wp2_with fail
    refine (HCX.out.step HL.out (B := 100) (by omega) (ok_0 kk) (by omega)).mono ?_
    rw [step_1 HK.out.1 (by simp)]
    rintro e w5 ⟨rfl, go5, hC, _⟩
    have HCX := Lib.hid hC
    clear hC HL
    go_wp2_with fail
    refine (HCX.out.program 3).mono ?_; rintro e w6 ⟨lb2, rfl, hC, hL, _⟩
    have HCX := Lib.hid hC
    have HL := Lib.hid hL
    clear hC hL
    go_wp2_with fail
    refine (HCX.out.step HL.out (B := 100) (by omega) (ok_1 kk) (by omega)).mono ?_
    rw [step_2 (n := kk) (x := ⟨1, a, v⟩) (by simp) (by have := HK.out.2; have := HA.out; show a < 0 ∨ (kk : Int) ≤ a; omega)]
    rintro e w7 ⟨rfl, go7, hC, _⟩
    have hm := hC.rm.mem
    have HCX := Lib.hid hC
    clear hC HL
    go_wp2_with fail
    refine (load_z hm 0 7 (first7 HK.out.1) (by simp [st2]) (by simp [st2])).mono ?_; rintro e w8 ⟨rfl, hm8, hx8⟩
    obtain ⟨hC, _⟩ := HCX.out.turn hm8 hx8 (fun k hk => .inl hk)
    obtain ⟨cap8, h8⟩ := hC.rm.run
    have HM8 := Lib.hid hm8
    have H8 := Lib.hid h8
    have HCX := Lib.hid (show Ctx w w8 rb mb cb go7 (st3 kk) (· = ib) (some ⟨ib, 0, none⟩) 3 (outE ⟨1, a, v⟩) from hC)
    clear hC hm hm8 hx8 h8
    go_wp2_with (go_at_call 16; refine (err_at H8.out).mono ?_; rintro e w9 ⟨rfl, rfl⟩; clear H8)
    refine (stores_at HM8.out).mono ?_; rintro e w9 ⟨rfl, rfl⟩
    go_wp2_with fail
    refine (HCX.out.program 3).mono ?_; rintro e w10 ⟨lb3, rfl, hC, hL, _⟩
    have HCX := Lib.hid hC
    have HL := Lib.hid hL
    clear hC hL
    go_wp2_with fail
    refine (HCX.out.step HL.out (B := 100) (by omega) (ok_3 kk) (by omega)).mono ?_
    rw [step_3]
    rintro e w11 ⟨rfl, go11, hC, _⟩
    have hm := hC.rm.mem
    have HCX := Lib.hid hC
    clear hC HL
    go_wp2_with fail
    refine (stores_at hm).mono ?_; rintro e w12 ⟨rfl, rfl⟩
    clear hm
    go_wp2_with fail
    go_ret
    exact ⟨rfl, HCX.out.low⟩
theorem walk_all (n a v : Int) (store : Bool) (w : World) (hn0 : 0 ≤ n) (hn1 : n ≤ 255) (hv : U v) :
    Calls Try.prog 6 #[.int .u8 n, .int .i64 a, .int .u32 v, .bool store] w fun e w' => e = .returned (.bool true) ∧ Below w.heap.size w w' := by
  by_cases h : 0 ≤ a ∧ a < 1 + n
  · exact walk_inside n a v store w hn0 hn1 h.1 h.2
  · cases store
    · exact walk_load n a v w hn0 hn1 hv (by omega)
    · exact walk_store n a v w hn0 hn1 hv (by omega)
set_option linter.unusedVariables false in
theorem walk {H : Type} {enc : TypeId × Value → H} (W : World) (args : Array Value) (ds : List (DataW H)) (hin : ArgsIn enc Try.prog Try.f6.params.toList W args ds) :
    Calls Try.prog 6 args W fun e W' => e = .returned (.bool true) ∧ Below W.heap.size W W' := by
  obtain ⟨⟨p, hA, hlt⟩, ⟨base, hval⟩, hsz⟩ := hin
  rw [Try.params6] at hA hval hsz
  obtain ⟨v0, vs0, d0, ds0, p0, q0, hargs, rfl, rfl, h0, r0⟩ := trodAll_cons hA
  obtain ⟨v1, vs1, d1, ds1, p1, q1, rfl, rfl, rfl, h1, r1⟩ := trodAll_cons r0
  obtain ⟨v2, vs2, d2, ds2, p2, q2, rfl, rfl, rfl, h2, r2⟩ := trodAll_cons r1
  obtain ⟨v3, vs3, d3, ds3, p3, q3, rfl, rfl, rfl, h3, r3⟩ := trodAll_cons r2
  obtain ⟨rfl, rfl, rfl⟩ := trodAll_nil r3
  obtain rfl : args = #[v0, v1, v2, v3] := by cases args; simp_all
  obtain ⟨a0, rfl, rfl, rfl, w0⟩ := open_int Try.underlying5 (hval 0 5 v0 rfl rfl) h0
  obtain ⟨a1, rfl, rfl, rfl, w1⟩ := open_int Try.underlying3 (hval 1 3 v1 rfl rfl) h1
  obtain ⟨a2, rfl, rfl, rfl, w2⟩ := open_int Try.underlying36 (hval 2 36 v2 rfl rfl) h2
  obtain ⟨a3, rfl, rfl, rfl⟩ := open_bool Try.underlying4 (hval 3 4 v3 rfl rfl) h3
  exact walk_all a0 a1 a2 a3 W (u8_lo w0) (u8_hi w0) ⟨u32_lo w2, u32_hi w2⟩

set_option maxRecDepth 100000 in
theorem proved : Rows.StepOutsideSaid :=
  OpenClaim.holds_of_wide 6 Try.f6 rfl rfl rfl rfl rfl rfl rfl ⟨rfl, rfl, rfl, rfl, rfl⟩ rfl rfl rfl rfl rfl (by kernel_rfl) Try.func6 (by kernel_rfl)
    (of_decide_eq_true (by kernel_rfl)) (by unfold Func.isWrapper; first | (rw [if_pos (by decide +kernel)]; kernel_rfl) | (rw [if_neg (by decide +kernel)]; exact ⟨rfl, rfl⟩))
    (fun os started H enc _ => law_lifted (s := Rows.stepOutsideSpec) own started (by kernel_rfl) Try.func6 laidOut (by kernel_rfl) (by kernel_rfl) Try.underlying4 rfl
      (ChangeSpec.witness6 (enc := enc) (C := Try.checked) false ⟨#[], #[.int .u8 0, .int .i64 0, .int .u32 0, .bool false], []⟩ 8 (by kernel_rfl) (by kernel_rfl) (by kernel_rfl) (by kernel_rfl))
      (fun ds h => match ds, h with | [_, _, _, _], _ => rfl) walk)
#print axioms proved
end Go.Proofs.Ytdmcnlkmfohmdaa.stepOutside
