/-
  What the program's functions of layer 11 keep: a row laid, killed, read, found. Over the program's own text.
-/
import Derived.Test.YtgponhdmhgdalaaTableKept
namespace Go.Proofs.Ytgponhdmhgdalaa
open Go.RowKit

theorem cell_any (b d k : Int) (hb0 : 0 ≤ b) (hb1 : b ≤ 60000) (hd0 : 0 ≤ d) (hd1 : d ≤ 60000) (hk0 : 0 ≤ k) (hk1 : k ≤ 3) (w : World) : Calls Try.prog 29 #[.int .i64 b, .int .i64 d, .int .i64 k] w fun e w' => e = .returned (.int .i64 (b + 4 * d + k)) ∧ w' = w := by
  obtain ⟨p, hp⟩ : ∃ p, p = b / 8 := ⟨_, rfl⟩
  obtain ⟨q, hq⟩ : ∃ q, q = d / 2 := ⟨_, rfl⟩
  have p0 : 0 ≤ p ∧ p ≤ 10000 := by omega
  have q0 : 0 ≤ q ∧ q ≤ 40000 := by omega
  have p1 : b.tdiv 8 = p := by rw [Int.tdiv_eq_ediv_of_nonneg hb0]; exact hp.symm
  have q1 : d.tdiv 2 = q := by rw [Int.tdiv_eq_ediv_of_nonneg hd0]; exact hq.symm
  clear hp hq
  obtain ⟨pp0, pp1⟩ := p0
  obtain ⟨qq0, qq1⟩ := q0
  have r1 : IntKind.i64.wrap p = p := IntWalk.i64_in _ (by omega)
  have r2 : IntKind.i64.wrap q = q := IntWalk.i64_in _ (by omega)
  have r3 : IntKind.i64.wrap (p + q) = p + q := IntWalk.i64_in _ (by omega)
  have t1 : ¬ p + q < -65536 := by omega
  have t2 : ¬ 65536 < p + q := by omega
  have s1 : IntKind.i64.wrap (4 * d) = 4 * d := IntWalk.i64_in _ (by omega)
  have s2 : IntKind.i64.wrap (b + 4 * d) = b + 4 * d := IntWalk.i64_in _ (by omega)
  have s3 : IntKind.i64.wrap (b + 4 * d + k) = b + 4 * d + k := IntWalk.i64_in _ (by omega)
  go_enter Try.func29, Try.ntmps29
  go_wp2_with fail
  go_ret
  exact ⟨rfl, rfl⟩
section
variable {w : World} {rb mb cb : Nat} {go : Option Nat} {st : St} {Bd : Nat}
set_option maxHeartbeats 1000000 in
theorem lay_any (b d id l v : Int) (hrm : RM w rb mb cb go true st) (hf : st.Fine Bd) (hB : Bd < 1000000000) (hb0 : 0 ≤ b) (hb1 : b ≤ 60000) (hd0 : 0 ≤ d) (hd1 : d ≤ 60000) (h1 : U id) (h2 : U l) (h3 : U v) :
    Calls Try.prog 12 #[.pointer (some ⟨rb, 0, none⟩), .int .i64 b, .int .i64 d, .int .u32 id, .int .u32 l, .int .u32 v] w fun e w' => ∃ go', e = .returned (.tuple #[]) ∧ RM w' rb mb cb go' true ((layR b d id l v).on st).2 ∧ Adv rb mb cb w go w' go' := by
  have HR := Lib.hid (RunW.start hrm)
  have HF := Lib.hid hf
  have HQ := Lib.hid (Rest.start (layR b d id l v) st)
  have h01 := cell_any b d 1 hb0 hb1 hd0 hd1 (by decide) (by decide)
  have h02 := cell_any b d 2 hb0 hb1 hd0 hd1 (by decide) (by decide)
  have h00 := cell_any b d 0 hb0 hb1 hd0 hd1 (by decide) (by decide)
  have HU := Lib.hid (And.intro h1 (And.intro h2 h3))
  obtain ⟨a, ha⟩ : ∃ a, a = b + 4 * d := ⟨_, rfl⟩
  simp only [Int.add_zero, ← ha] at h00 h01 h02
  have H0 := Lib.hid h00
  have H1 := Lib.hid h01
  have H2 := Lib.hid h02
  have HE := Lib.hid ha
  clear hrm hf ha h1 h2 h3 h00 h01 h02
  go_enter Try.func12, Try.ntmps12
  go_wp2_with fail
  refine (H1.out _).mono ?_; rintro e w1 ⟨rfl, rfl⟩
  go_wp2_with fail
  refine (run_store HR.out.rm hB HF.out.ok (a + 1) id).mono ?_; rintro e w2 ⟨rfl, go2, hr2, ha2⟩
  have HR := Lib.hid (HR.out.access hr2 ha2)
  have hq := HQ.out
  unfold layR at hq
  rw [← HE.out] at hq
  have hq2 := hq.store HF.out
  have hf2 := HF.out.store (a + 1) id
  rw [u32_in HU.out.1] at hq2 hf2
  have HQ := Lib.hid hq2
  have HF := Lib.hid hf2
  clear hr2 ha2 hq hq2 hf2
  go_wp2_with fail
  refine (H2.out _).mono ?_; rintro e w1 ⟨rfl, rfl⟩
  go_wp2_with fail
  refine (run_store HR.out.rm hB HF.out.ok (a + 2) l).mono ?_; rintro e w3 ⟨rfl, go3, hr3, ha3⟩
  have HR := Lib.hid (HR.out.access hr3 ha3)
  have hq2 := HQ.out.store HF.out
  have hf2 := HF.out.store (a + 2) l
  rw [u32_in HU.out.2.1] at hq2 hf2
  have HQ := Lib.hid hq2
  have HF := Lib.hid hf2
  clear hr3 ha3 hq2 hf2
  go_wp2_with fail
  refine (H0.out _).mono ?_; rintro e w1 ⟨rfl, rfl⟩
  go_wp2_with fail
  refine (run_store HR.out.rm hB HF.out.ok a v).mono ?_; rintro e w4 ⟨rfl, go4, hr4, ha4⟩
  have HR := Lib.hid (HR.out.access hr4 ha4)
  have hq2 := HQ.out.store HF.out
  rw [u32_in HU.out.2.2] at hq2
  have HQ := Lib.hid hq2.ret
  clear hr4 ha4 hq2
  go_wp2_with fail
  go_end0
  have hq := HQ.out
  unfold Ended at hq
  have hrm := HR.out.rm
  rw [← hq.1] at hrm
  refine ⟨go4, rfl, ?_, HR.out.adv⟩
  unfold layR
  rw [← HE.out]
  exact hrm
set_option maxHeartbeats 1000000 in
theorem kill_any (b d v : Int) (hrm : RM w rb mb cb go true st) (hf : st.Fine Bd) (hB : Bd < 1000000000) (hb0 : 0 ≤ b) (hb1 : b ≤ 60000) (hd0 : 0 ≤ d) (hd1 : d ≤ 60000) (h3 : U v) :
    Calls Try.prog 17 #[.pointer (some ⟨rb, 0, none⟩), .int .i64 b, .int .i64 d, .int .u32 v] w fun e w' => ∃ go', e = .returned (.tuple #[]) ∧ RM w' rb mb cb go' true ((killR b d v).on st).2 ∧ Adv rb mb cb w go w' go' := by
  have HR := Lib.hid (RunW.start hrm)
  have HF := Lib.hid hf
  have HQ := Lib.hid (Rest.start (killR b d v) st)
  have h03 := cell_any b d 3 hb0 hb1 hd0 hd1 (by decide) (by decide)
  have HU := Lib.hid h3
  obtain ⟨a, ha⟩ : ∃ a, a = b + 4 * d := ⟨_, rfl⟩
  simp only [← ha] at h03
  have HA := Lib.hid h03
  have HE := Lib.hid ha
  clear hrm hf ha h3 h03
  go_enter Try.func17, Try.ntmps17
  go_wp2_with fail
  refine (HA.out _).mono ?_; rintro e w1 ⟨rfl, rfl⟩
  go_wp2_with fail
  refine (run_store HR.out.rm hB HF.out.ok (a + 3) v).mono ?_; rintro e w2 ⟨rfl, go2, hr2, ha2⟩
  have HR := Lib.hid (HR.out.access hr2 ha2)
  have hq := HQ.out
  unfold killR at hq
  rw [← HE.out] at hq
  have hq2 := hq.store HF.out
  rw [u32_in HU.out] at hq2
  have HQ := Lib.hid hq2.ret
  clear hr2 ha2 hq hq2
  go_wp2_with fail
  go_end0
  have hq := HQ.out
  unfold Ended at hq
  have hrm := HR.out.rm
  rw [← hq.1] at hrm
  refine ⟨go2, rfl, ?_, HR.out.adv⟩
  unfold killR
  rw [← HE.out]
  exact hrm

/-! ### Find -/
def findQ (b x : Int) : Nat → Nat → Pr Int
  | 0, _ => .ret (-1)
  | m + 1, d => .load (b + 4 * (d : Int) + 1) fun y => if y = x then .ret (d : Int) else findQ b x m (d + 1)
def findR11 (b n x : Int) : Pr Int := findQ b x n.toNat 0
theorem find_does {cs : List Int} {b x : Int} (hb : 0 ≤ b) : ∀ (m d : Nat), b + 4 * ((d + m : Nat) : Int) ≤ cs.length → ∃ k, k ≤ m ∧ Does (findQ b x m d) cs k (findF cs b x m d) cs
  | 0, d, _ => ⟨0, Nat.le_refl _, .ret _ _⟩
  | m + 1, d, h => by
    unfold findQ findF
    by_cases hx : cellZ cs (b + 4 * (d : Int) + 1) = x
    · refine ⟨1, by omega, .load (by omega) (by omega) ?_⟩
      have e : cs.getD (b + 4 * (d : Int) + 1).toNat 0 = x := hx
      rw [if_pos hx, e, if_pos rfl]
      exact .ret _ _
    · obtain ⟨k, hk, hd⟩ := find_does (cs := cs) hb m (d + 1) (by omega)
      refine ⟨k + 1, by omega, .load (by omega) (by omega) ?_⟩
      rw [if_neg hx]
      have e : ¬ cs.getD (b + 4 * (d : Int) + 1).toNat 0 = x := hx
      rw [if_neg e]
      exact hd
theorem findD11 (cs : List Int) (b : Int) (n : Nat) (x : Int) (hb : 0 ≤ b) (hl : b + 4 * (n : Int) ≤ cs.length) : ∃ m, m ≤ 8 * n + 8 ∧ Does (findR11 b (n : Int) x) cs m (findZ cs b n x) cs := by
  obtain ⟨k, hk, hd⟩ := find_does (cs := cs) (b := b) (x := x) hb n 0 (by omega)
  exact ⟨k, by omega, hd⟩
set_option maxHeartbeats 1000000 in
theorem find_any (b n x : Int) (hrm : RM w rb mb cb go true st) (hf : st.Fine Bd) (hB : Bd < 1000000000) (hb0 : 0 ≤ b) (hb1 : b ≤ 60000) (hn0 : 0 ≤ n) (hn1 : n ≤ 60000) :
    Calls Try.prog 15 #[.pointer (some ⟨rb, 0, none⟩), .int .i64 b, .int .i64 n, .int .u32 x] w fun e w' => ∃ k go', e = .returned (.int .i64 k) ∧ RM w' rb mb cb go' true ((findR11 b n x).on st).2 ∧ Adv rb mb cb w go w' go' ∧ ∀ y, ((findR11 b n x).on st).1 = some y → y = k := by
  obtain ⟨m, rfl⟩ := Int.eq_ofNat_of_zero_le hn0
  have HR := Lib.hid (RunW.start hrm)
  have HF := Lib.hid hf
  have HQ := Lib.hid (show Rest (findR11 b (m : Int) x) (findQ b x (m - 0) 0) st st from Rest.start _ _)
  have HA := Lib.hid (fun (d : Nat) (h : d ≤ m) => cell_any b (d : Int) 1 hb0 hb1 (by omega) (by omega) (by decide) (by decide))
  have hkn : (if (65536 : Int) < (m : Int) then (65536 : Int) else (m : Int)) = (m : Int) := by split <;> omega
  have hkb : ∀ (ts : Array TypeId) (t : TypeId) (w : World), (Builtin.min_ ts t #[.int .i64 (m : Int), .int .i64 65536]).run Try.prog w = .ok (.int .i64 (m : Int)) w := fun ts t w => by rw [run_min_int2, hkn]
  clear hrm hf
  go_enter Try.func15, Try.ntmps15
  go_wp2_with fail
  go_loopw [12] (fun iv wr => ∃ (i : Nat) (st' : St) (go' : Option Nat), i ≤ m ∧ iv = .int .i64 i ∧ Hid (RunW w rb mb cb go st' go' wr) ∧ Hid (st'.Fine Bd) ∧ Hid (Rest (findR11 b (m : Int) x) (findQ b x (m - i) i) st st')) (fun iv _ => m - (intOf iv).toNat)
  case atStart => exact ⟨0, st, go, by omega, rfl, HR, HF, HQ⟩
  case round =>
    clear HR HF HQ
    obtain ⟨i, st1, go1, hi, rfl, HR, HF, HQ⟩ := hrel
    by_cases hlt : i < m
    · have hlt1 : (i : Int) < (m : Int) := by omega
      have hq := HQ.out
      obtain ⟨j, hj⟩ : ∃ j, m - i = j + 1 := ⟨m - i - 1, by omega⟩
      have hj2 : m - (i + 1) = j := by omega
      rw [hj] at hq
      unfold findQ at hq
      have hq2 := hq.load HF.out
      have HOff : Hid (st1.off = true → Ended (findR11 b (m : Int) x) (-1) st st1) := Lib.hid (fun ho => hq.off HF.out ho rfl _)
      obtain ⟨a, ha⟩ : ∃ a, a = b + 4 * (i : Int) := ⟨_, rfl⟩
      rw [← ha] at hq2
      have hai := HA.out i hi
      rw [← ha] at hai
      have HAi := Lib.hid hai
      have HQ2 := Lib.hid hq2
      clear hq hq2 ha HQ hai
      obtain ⟨capo, hro⟩ := HR.out.rm.run
      obtain ⟨of, hoff⟩ : ∃ of, of = st1.off := ⟨_, rfl⟩
      rw [← hoff] at hro HOff
      clear hoff
      have HRo := Lib.hid hro
      clear hro
      cases of with
      | true =>
        go_wp2_with fail
        refine (off_at HRo.out).mono ?_; rintro e w6 ⟨rfl, rfl⟩
        clear HRo
        go_wp2_with fail
        try rw [Exit.noGoto_ret]
        go_ret
        have hq := HOff.out (by trivial)
        unfold Ended at hq
        refine ⟨-1, go1, rfl, ?_, HR.out.adv, hq.2⟩
        have := HR.out.rm
        rw [← hq.1] at this
        exact this
      | false =>
      go_wp2_with fail
      refine (off_at HRo.out).mono ?_; rintro e w6 ⟨rfl, rfl⟩
      clear HRo HOff
      go_wp2_with fail
      refine (HAi.out _).mono ?_; rintro e w1 ⟨rfl, rfl⟩
      go_wp2_with fail
      refine (run_load HR.out.rm hB HF.out.ok (a + 1)).mono ?_; rintro e w2 ⟨rfl, go2, hr2, ha2⟩
      have HR := Lib.hid (HR.out.access hr2 ha2)
      have HF := Lib.hid (HF.out.load (a + 1))
      clear hr2 ha2
      obtain ⟨st2, hst2⟩ : ∃ st2, st2 = (st1.load (a + 1)).2 := ⟨_, rfl⟩
      obtain ⟨y, hy⟩ : ∃ y, y = (st1.load (a + 1)).1 := ⟨_, rfl⟩
      rw [← hst2] at HR HF HQ2
      rw [← hy] at HQ2 ⊢
      clear hst2 hy
      by_cases hyx : y = x
      · have b1 : (y == x) = true := by simpa using hyx
        have hq2 := HQ2.out
        rw [if_pos hyx] at hq2
        have HQ := Lib.hid hq2.ret
        clear hq2 hyx
        go_wp2_with fail
        go_ret
        have hq := HQ.out
        unfold Ended at hq
        refine ⟨(i : Int), go2, rfl, ?_, HR.out.adv, hq.2⟩
        have := HR.out.rm
        rw [← hq.1] at this
        exact this
      · have b1 : (y == x) = false := by simpa using hyx
        have hq2 := HQ2.out
        rw [if_neg hyx] at hq2
        have HQ := Lib.hid hq2
        clear hq2 hyx
        go_wp2_with fail
        go_roundw
        case rel => exact ⟨i + 1, st2, go2, by omega, by go_num, HR, HF, by rw [hj2]; exact HQ⟩
        case measure => simp [intOf]; omega
    · obtain rfl : i = m := by omega
      have hq := HQ.out
      rw [Nat.sub_self] at hq
      have HQ2 := Lib.hid hq.ret
      clear hq
      go_wp2_with fail
      go_ret
      have hq := HQ2.out
      unfold Ended at hq
      refine ⟨-1, go1, rfl, ?_, HR.out.adv, hq.2⟩
      have := HR.out.rm
      rw [← hq.1] at this
      exact this
end
end Go.Proofs.Ytgponhdmhgdalaa
