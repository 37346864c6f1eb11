/-
  The class of a cell's slab, and its place in it: pool.Class, and the reference's.
-/
import Derived.Test.YtiabmbkmahlhkaaPoolD
namespace Go.Proofs.Ytiabmbkmahlhkaa
open Go.RowKit

/-- Does a cell lie in a pool? -/
def InB (B S : Nat → Int) (a : Int) (k : Nat) : Prop := B k ≤ a ∧ a < B k + S k
/-- Bounds of a plan. -/
structure Fit (B S : Nat → Int) : Prop where
  b0 : ∀ k, k < 6 → 0 ≤ B k
  b1 : ∀ k, k < 6 → B k ≤ 1000000
  s0 : ∀ k, k < 6 → 0 ≤ S k
  s1 : ∀ k, k < 6 → S k ≤ 1000000
  m : ∃ m : Nat → Int, ∀ k, k < 4 → 0 ≤ m k ∧ S k = m k * slab k

theorem quiet_eq {P : Program} {f : FuncId} {args : Array Value} {w : World} {n : Nat} {v : Value} (h : Calls P f args (w.drewN n) fun e w' => e = .returned v ∧ w.drewN n = w') : Calls P f args (w.drewN n) fun e w'' => e = .returned v ∧ ∃ m, w'' = w.drewN m :=
  h.mono fun _ _ ⟨he, hw⟩ => ⟨he, n, hw.symm⟩

/-- The plan's copy. -/
def OneAt (w : World) (B S : Nat → Int) (C T L : Int) (wr : World) : Prop := wr.heap[w.heap.size]? = some (.cells (planC B S C T L) 29 (0, 0)) ∧ Below w.heap.size w wr
theorem OneAt.drawn {w : World} {B S : Nat → Int} {C T L : Int} {wr : World} (h : OneAt w B S C T L wr) (n : Nat) : OneAt w B S C T L (wr.drewN n) := ⟨h.1, below_drawn h.2 n⟩

/-- What Class comes to. -/
def ClsPost (B S : Nat → Int) (a : Int) (w : World) (e : Ending) (w' : World) : Prop := Below w.heap.size w w' ∧
  ((∃ k, k < 4 ∧ InB B S a k ∧ (∀ j, j < k → ¬ InB B S a j) ∧ e = .returned (.tuple #[.int .i64 k, .int .i64 ((a - B k) % slab k)])) ∨ ((∀ j, j < 4 → ¬ InB B S a j) ∧ e = .returned (.tuple #[.int .i64 (-1), .int .i64 0])))

set_option maxHeartbeats 1000000 in
theorem class_any (w : World) (B S : Nat → Int) (C T L a : Int) (hf : Fit B S) :
    Calls Try.prog 27 #[.agg (planC B S C T L), .int .i64 a] w fun e w' => ClsPost B S a w e w' := by
  have HF := Lib.hid hf
  clear hf
  go_enter Try.func27, Try.ntmps27
  go_wp2_with fail
  go_loopw [7] (fun i wr => ∃ k : Nat, k ≤ 4 ∧ i = .int .i64 k ∧ Hid (∀ j, j < k → ¬ InB B S a j) ∧ OneAt w B S C T L wr) (fun i _ => 4 - (intOf i).toNat)
  case atStart => exact ⟨0, by omega, rfl, Lib.hid (fun j hj => by omega), heap_alloc_new w _, below_one⟩
  case round =>
    obtain ⟨k, hk, rfl, HO, hT⟩ := hrel
    by_cases hlt : k < 4
    · have hlt4 : (k : Int) < 4 := by omega
      have hlt6 : (k : Int) < 6 := by omega
      have c0 : wr.cell? ⟨w.heap.size, k, none⟩ = some (.int .i64 (B k)) := (cell_at hT.1 k).trans (planC_base _ _ _ _ _ k (by omega))
      have c1 : wr.cell? ⟨w.heap.size, 6 + k, none⟩ = some (.int .i64 (S k)) := (cell_at hT.1 (6 + k)).trans (planC_size _ _ _ _ _ k (by omega))
      have b0 := HF.out.b0 k (by omega)
      have b1 := HF.out.b1 k (by omega)
      have s0 := HF.out.s0 k (by omega)
      have s1 := HF.out.s1 k (by omega)
      have HT := Lib.hid hT
      clear hT
      have wr1 : IntKind.i64.wrap (B k + S k) = B k + S k := IntWalk.i64_in _ (by omega)
      by_cases h0 : B k ≤ a
      · by_cases h1 : a < B k + S k
        · have sl0 := slab_lo k
          have sl1 := slab_hi k
          have d1 : decide (a < B k + S k) = true := decide_eq_true h1
          have a0 : 0 ≤ a - B k := by omega
          have md0 := Int.emod_nonneg (a - B k) (show slab k ≠ 0 by omega)
          have md1 := Int.emod_lt_of_pos (a - B k) (show 0 < slab k by omega)
          have wr2 : IntKind.i64.wrap (a - B k) = a - B k := IntWalk.i64_in _ (by omega)
          have wr3 : IntKind.i64.wrap ((a - B k) % slab k) = (a - B k) % slab k := IntWalk.i64_in _ (by omega)
          have tm : (a - B k).tmod (slab k) = (a - B k) % slab k := Int.tmod_eq_emod_of_nonneg a0
          have hz : (slab k == 0) = false := by simp; omega
          go_wp2_with fail
          go_quiet (fail)
          rename Nat => m1
          go_upto_region 5 with fail
          obtain ⟨wz, hwz⟩ : ∃ wz, wz = wr.drewN m1 := ⟨_, rfl⟩
          rw [← hwz]
          have c2 : wz.cell? ⟨w.heap.size, k, none⟩ = some (.int .i64 (B k)) := by rw [hwz]; exact c0
          have HT := Lib.hid (show OneAt w B S C T L wz by rw [hwz]; exact HT.out.drawn _)
          clear hwz c0 c1
          go_quiet ((go_at_call 33; exact quiet_eq (slab_in _ k hlt)))
          go_wp2_with fail
          go_ret2
          exact ⟨below_drawn HT.out.2 _, .inl ⟨k, hlt, ⟨h0, h1⟩, HO.out, rfl⟩⟩
        · have d1 : decide (a < B k + S k) = false := decide_eq_false h1
          have HN := Lib.hid (show ¬ InB B S a k from fun h => h1 h.2)
          clear h1
          go_wp2_with fail
          go_quiet (fail)
          go_wp2_with fail
          go_roundw
          case rel =>
            refine ⟨k + 1, by omega, by go_num, Lib.hid (fun j hj => ?_), HT.out.drawn _⟩
            by_cases e : j = k
            · subst e; exact HN.out
            · exact HO.out j (by omega)
          case measure => simp [intOf]; omega
      · have d0 : decide (B k ≤ a) = false := decide_eq_false h0
        have HN := Lib.hid (show ¬ InB B S a k from fun h => h0 h.1)
        clear h0
        go_wp2_with fail
        go_quiet (fail)
        go_wp2_with fail
        go_roundw
        case rel =>
          refine ⟨k + 1, by omega, by go_num, Lib.hid (fun j hj => ?_), HT.out.drawn _⟩
          by_cases e : j = k
          · subst e; exact HN.out
          · exact HO.out j (by omega)
        case measure => simp [intOf]; omega
    · obtain rfl : k = 4 := by omega
      have HB := Lib.hid hT.2
      clear hT
      go_wp2_with fail
      go_ret2
      exact ⟨HB.out, .inr ⟨HO.out, rfl⟩⟩

theorem slab_mod (x : Nat) (k : Nat) (r : Int) (h0 : 0 ≤ r) (h1 : r < slab k) : (x * slab k + r) % slab k = r := by
  rw [Int.add_comm, Int.add_mul_emod_self_right]
  exact Int.emod_eq_of_lt h0 h1

theorem slab_next (x : Nat) (k : Nat) (m S : Int) (hm : S = m * slab k) (h : x * slab k < S) : x * slab k + slab k ≤ S := by
  subst hm
  have hs := slab_lo k
  have hlt : (x : Int) < m := Int.lt_of_mul_lt_mul_right h (by omega)
  have : ((x : Int) + 1) * slab k ≤ m * slab k := Int.mul_le_mul_of_nonneg_right (by omega) (by omega)
  rw [Int.add_mul, Int.one_mul] at this
  exact this

set_option maxHeartbeats 1000000 in
theorem ref_class_any (w : World) (B S : Nat → Int) (C T L a : Int) (hf : Fit B S) :
    Calls Try.prog 36 #[.agg (planC B S C T L), .int .i64 a] w fun e w' => ClsPost B S a w e w' := by
  have HF := Lib.hid hf
  clear hf
  go_enter Try.func36, Try.ntmps36
  go_wp2_with fail
  go_loopw [6, 7] (fun i _ wr => ∃ k : Nat, k ≤ 4 ∧ i = .int .i64 k ∧ Hid (∀ j, j < k → ¬ InB B S a j) ∧ OneAt w B S C T L wr) (fun i _ _ => 4 - (intOf i).toNat)
  case atStart => exact ⟨0, by omega, rfl, Lib.hid (fun j hj => by omega), heap_alloc_new w _, below_one⟩
  case round =>
    obtain ⟨k, hk, rfl, HO, hT⟩ := hrel
    obtain ⟨wo, rfl⟩ : ∃ wo : World, wo = wr := ⟨_, rfl⟩
    by_cases hlt : k < 4
    · have hlt4 : (k : Int) < 4 := by omega
      have hlt6 : (k : Int) < 6 := by omega
      have c0 : wo.cell? ⟨w.heap.size, k, none⟩ = some (.int .i64 (B k)) := (cell_at hT.1 k).trans (planC_base _ _ _ _ _ k (by omega))
      have b0 := HF.out.b0 k (by omega)
      have b1 := HF.out.b1 k (by omega)
      have s0 := HF.out.s0 k (by omega)
      have s1 := HF.out.s1 k (by omega)
      obtain ⟨m, hm⟩ := HF.out.m
      have HM := Lib.hid (hm k hlt)
      clear hm
      have HT := Lib.hid hT
      clear hT
      have sl0 := slab_lo k
      have sl1 := slab_hi k
      have wr1 : IntKind.i64.wrap (B k + S k) = B k + S k := IntWalk.i64_in _ (by omega)
      go_wp2_with fail
      clear c0
      go_loopw [7] (fun b wr => ∃ x : Nat, b = .int .i64 (B k + x * slab k) ∧ Hid (x * slab k ≤ S k) ∧ Hid (¬ (B k ≤ a ∧ a < B k + x * slab k)) ∧ OneAt w B S C T L wr) (fun b _ => (B k + S k - intOf b).toNat)
      case atStart => exact ⟨0, by simp, Lib.hid (by simpa using s0), Lib.hid (by rintro ⟨p, q⟩; rw [show ((0 : Nat) : Int) * slab k = 0 by simp] at q; omega), HT.out⟩
      case round =>
        obtain ⟨x, rfl, hx0, hx1, hT⟩ := hrel
        have HXS := Lib.hid (slab_next x k (m k) (S k) HM.out.2)
        obtain ⟨y, hy⟩ : ∃ y, y = (x : Int) * slab k := ⟨_, rfl⟩
        have y0 : 0 ≤ y := by rw [hy]; exact Int.mul_nonneg (by omega) (by omega)
        have HMod := Lib.hid (fun r => slab_mod x k r)
        rw [← hy] at hx0 hx1 HXS HMod ⊢
        have y1 := hx0.out
        have HY := Lib.hid hy
        clear hy hx0
        have c0 : wr.cell? ⟨w.heap.size, k, none⟩ = some (.int .i64 (B k)) := (cell_at hT.1 k).trans (planC_base _ _ _ _ _ k (by omega))
        have c1 : wr.cell? ⟨w.heap.size, 6 + k, none⟩ = some (.int .i64 (S k)) := (cell_at hT.1 (6 + k)).trans (planC_size _ _ _ _ _ k (by omega))
        have HT := Lib.hid hT
        clear hT
        by_cases hys : y < S k
        · have d1 : decide (B k + y < B k + S k) = true := decide_eq_true (by omega)
          by_cases h0 : B k + y ≤ a
          · by_cases h1 : a < B k + y + slab k
            · have e0 : decide (B k + y ≤ a) = true := decide_eq_true h0
              have HI := Lib.hid (show InB B S a k from ⟨by omega, by have := HXS.out hys; omega⟩)
              have HE := Lib.hid (show (a - B k) % slab k = a - (B k + y) by
                have := HMod.out (a - (B k + y)) (by omega) (by omega)
                rw [show y + (a - (B k + y)) = a - B k by omega] at this
                exact this)
              go_wp2_with fail
              go_quiet (fail)
              go_wp2_with (first | (go_at_call 37; refine (ref_slab_in _ k hlt).mono ?_; rintro e w' ⟨rfl, rfl⟩) | fail)
              go_ret2
              exact ⟨below_drawn HT.out.2 _, .inl ⟨k, hlt, HI.out, HO.out, by rw [HE.out]; exact rfl⟩⟩
            · have e0 : decide (B k + y ≤ a) = true := decide_eq_true h0
              have hn := HXS.out hys
              go_wp2_with fail
              go_quiet (fail)
              go_wp2_with (first | (go_at_call 37; refine (ref_slab_in _ k hlt).mono ?_; rintro e w' ⟨rfl, rfl⟩) | fail)
              go_roundw
              case rel =>
                refine ⟨x + 1, ?_, Lib.hid ?_, Lib.hid ?_, HT.out.drawn _⟩
                · rw [show ((x + 1 : Nat) : Int) * slab k = y + slab k by rw [HY.out]; simp [Int.add_mul]]; rw [Int.add_assoc]
                · rw [show ((x + 1 : Nat) : Int) * slab k = y + slab k by rw [HY.out]; simp [Int.add_mul]]; exact hn
                · rw [show ((x + 1 : Nat) : Int) * slab k = y + slab k by rw [HY.out]; simp [Int.add_mul]]; omega
              case measure => simp [intOf]; omega
          · have e0 : decide (B k + y ≤ a) = false := decide_eq_false h0
            have hn := HXS.out hys
            go_wp2_with fail
            go_quiet (fail)
            go_wp2_with (first | (go_at_call 37; refine (ref_slab_in _ k hlt).mono ?_; rintro e w' ⟨rfl, rfl⟩) | fail)
            go_roundw
            case rel =>
              refine ⟨x + 1, ?_, Lib.hid ?_, Lib.hid ?_, HT.out.drawn _⟩
              · rw [show ((x + 1 : Nat) : Int) * slab k = y + slab k by rw [HY.out]; simp [Int.add_mul]]; rw [Int.add_assoc]
              · rw [show ((x + 1 : Nat) : Int) * slab k = y + slab k by rw [HY.out]; simp [Int.add_mul]]; exact hn
              · rw [show ((x + 1 : Nat) : Int) * slab k = y + slab k by rw [HY.out]; simp [Int.add_mul]]; have := hx1.out; omega
            case measure => simp [intOf]; omega
        · have d1 : decide (B k + y < B k + S k) = false := decide_eq_false (by omega)
          have HN := Lib.hid (show ¬ InB B S a k from fun h => hx1.out ⟨h.1, by have := h.2; omega⟩)
          go_wp2_with fail
          go_quiet (fail)
          go_wp2_with fail
          go_roundw
          case rel =>
            refine ⟨k + 1, by omega, by go_num, Lib.hid (fun j hj => ?_), HT.out.drawn _⟩
            by_cases e : j = k
            · subst e; exact HN.out
            · exact HO.out j (by omega)
          case measure => simp [intOf]; omega
    · obtain rfl : k = 4 := by omega
      have HB := Lib.hid hT.2
      clear hT
      go_wp2_with fail
      go_ret2
      exact ⟨HB.out, .inr ⟨HO.out, rfl⟩⟩
end Go.Proofs.Ytiabmbkmahlhkaa
