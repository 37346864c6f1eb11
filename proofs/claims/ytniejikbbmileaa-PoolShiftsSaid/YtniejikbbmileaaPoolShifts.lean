/-
  PROVED: the law PoolShifts returns true for every configuration and every number of a class. No condition.
-/
import Derived.Test.YtniejikbbmileaaPoolArgs
import Derived.Test.YtniejikbbmileaaPoolFixed
import Derived.Test.YtniejikbbmileaaRegion
namespace Go.Proofs.Ytniejikbbmileaa.poolShifts
open Go.ChangeShapes Go.WideShapes Go.ChangeAt Go.RowKit

/-- One slab more of a class. -/
def plus (s : Nat → Int) (i j : Nat) : Int := if j = i then s i + 1 else s j
theorem conf_plus (d t : Int) (s : Nat → Int) (bk rm : Int) (kf bf : Nat) (i : Nat) (hi : i < 4) : (confC d t s bk rm kf bf).setIfInBounds (2 + i) (.int .i64 (s i + 1)) = confC d t (plus s i) bk rm kf bf := by
  have : i = 0 ∨ i = 1 ∨ i = 2 ∨ i = 3 := by omega
  rcases this with rfl | rfl | rfl | rfl <;> rfl
theorem sz_plus (s : Nat → Int) (bk rm : Int) (i : Nat) (hi : i < 4) (j : Nat) : szOf (plus s i) bk rm j = szOf s bk rm j + if j = i then slab i else 0 := by
  unfold szOf plus
  by_cases e : j = i
  · subst e
    rw [if_pos hi, if_pos hi, if_pos rfl, if_pos rfl, Int.add_mul, Int.one_mul]
  · rw [if_neg e, if_neg e, Int.add_zero]
theorem base_plus (s : Nat → Int) (bk rm : Int) (i : Nat) (hi : i < 4) : ∀ j, baseOf (szOf (plus s i) bk rm) j = baseOf (szOf s bk rm) j + if i < j then slab i else 0
  | 0 => by simp [baseOf]
  | j + 1 => by
    simp only [baseOf, base_plus s bk rm i hi j, sz_plus s bk rm i hi j]
    by_cases a : i < j
    · rw [if_pos a, if_neg (by omega), if_pos (by omega)]; omega
    · by_cases b : j = i
      · rw [if_neg a, if_pos b, if_pos (by omega)]; omega
      · rw [if_neg a, if_neg b, if_neg (by omega)]; omega

/-- The copy of the configuration, and the one with a slab more. -/
def TwoAt (w : World) (d t : Int) (s s' : Nat → Int) (bk rm : Int) (kf bf : Nat) (wr : World) : Prop :=
  wr.heap[w.heap.size]? = some (.cells (confC d t s bk rm kf bf) 25 (0, 0)) ∧ wr.heap[w.heap.size + 1]? = some (.cells (confC d t s' bk rm kf bf) 25 (0, 0)) ∧ Below w.heap.size w wr
theorem TwoAt.below {w : World} {d t : Int} {s s' : Nat → Int} {bk rm : Int} {kf bf : Nat} {wr w' : World} (h : TwoAt w d t s s' bk rm kf bf wr) (hb : Below wr.heap.size wr w') : TwoAt w d t s s' bk rm kf bf w' :=
  ⟨(hb.block _ (lt_of_heap h.1)).trans h.1, (hb.block _ (lt_of_heap h.2.1)).trans h.2.1, h.2.2.trans (hb.mono h.2.2.size)⟩
/-- The two plans. -/
def PlansAt (w : World) (p q : Nat) (B S : Nat → Int) (C T L : Int) (B' S' : Nat → Int) (C' : Int) (wr : World) : Prop :=
  wr.heap[p]? = some (.cells (planC B S C T L) 28 (0, 0)) ∧ wr.heap[q]? = some (.cells (planC B' S' C' T L) 28 (0, 0)) ∧ Below w.heap.size w wr
theorem PlansAt.below {w : World} {p q : Nat} {B S : Nat → Int} {C T L : Int} {B' S' : Nat → Int} {C' : Int} {wr w' : World} (h : PlansAt w p q B S C T L B' S' C' wr) (hb : Below wr.heap.size wr w') : PlansAt w p q B S C T L B' S' C' w' :=
  ⟨(hb.block _ (lt_of_heap h.1)).trans h.1, (hb.block _ (lt_of_heap h.2.1)).trans h.2.1, h.2.2.trans (hb.mono h.2.2.size)⟩
theorem PlansAt.drawn {w : World} {p q : Nat} {B S : Nat → Int} {C T L : Int} {B' S' : Nat → Int} {C' : Int} {wr : World} (h : PlansAt w p q B S C T L B' S' C' wr) (n : Nat) : PlansAt w p q B S C T L B' S' C' (wr.drewN n) :=
  ⟨h.1, h.2.1, below_drawn h.2.2 n⟩

theorem new_row {w : World} {old cs : Array Value} {t : TypeId} : ((w.alloc (.cells old t)).setRow w.heap.size cs).heap[w.heap.size]? = some (.cells cs t (0, 0)) ∧ Below w.heap.size w ((w.alloc (.cells old t)).setRow w.heap.size cs) :=
  ⟨setRow_heap _ _ _ _ _ _ (heap_alloc_new w _), below_setRow below_one (Nat.le_refl _) _⟩

theorem conf_info (d t : Int) (s : Nat → Int) (bk rm : Int) (kf bf : Nat) : (Try.prog.info? 25).map (·.size) = some (confC d t s bk rm kf bf).size := by kernel_rfl
theorem conf_one (d t : Int) (s : Nat → Int) (bk rm : Int) (kf bf : Nat) : (confC d t s bk rm kf bf).all (·.oneCell') = true := by simp [confC, Value.oneCell']
/-- What Lay answers, whatever it is handed. -/
theorem lays (d t : Int) (s : Nat → Int) (bk rm : Int) (kf bf : Nat) : ∃ (B S : Nat → Int) (C T L E : Int),
    ((E = 0 → OkConf d t s bk rm ∧ B = baseOf (szOf s bk rm) ∧ S = szOf s bk rm ∧ C = baseOf (szOf s bk rm) 6 ∧ T = slotsOf t ∧ L = liveOf d t) ∧ (E = 0 ∨ E = 1)) ∧
    (∀ w, Calls Try.prog 9 #[.agg (confC d t s bk rm kf bf)] w fun e w' => e = .returned (.tuple #[.agg (planC B S C T L), .int .i64 E]) ∧ Below w.heap.size w w') := by
  by_cases h : OkConf d t s bk rm
  · exact ⟨_, _, _, _, _, _, ⟨fun _ => ⟨h, rfl, rfl, rfl, rfl, rfl⟩, .inl rfl⟩, fun w => lay_ok w d t s bk rm kf bf h⟩
  · exact ⟨_, _, _, _, _, _, ⟨fun h => absurd h (by decide), .inr rfl⟩, fun w => lay_bad w d t s bk rm kf bf h⟩
theorem slab_any (w : World) (k : Nat) (hk : k < 4) : Calls Try.prog 18 #[.int .i64 k] w fun e w' => e = .returned (.int .i64 (slab k)) ∧ w = w' := slab_in w k hk

set_option maxHeartbeats 2000000 in
set_option maxRecDepth 100000 in
theorem walk_in (d t : Int) (s : Nat → Int) (bk rm : Int) (kf bf K i : Nat) (w : World) (hK : K ≤ 255) (hi : i < 4) (hKi : (K : Int) % 4 = (i : Int)) (hs0 : -9223372036854775808 ≤ s i) :
    Calls Try.prog 8 #[.agg (confC d t s bk rm kf bf), .int .u8 K] w fun e w' => e = .returned (.bool true) ∧ Below w.heap.size w w' := by
  have HK := Lib.hid hKi
  clear hKi
  have hi4 : (i : Int) < 4 := by omega
  go_enter Try.func8, Try.ntmps8
  go_upto_region 1 with fail
  go_upto_region 3 with (first
    | (refine wpList_load_row rfl 25 (.tmp 2) rfl w.heap.size rfl 25 (confC d t s bk rm kf bf) (0, 0) _ (heap_alloc_new w _) Try.underlying25 rfl (conf_info _ _ _ _ _ _ _) ?_)
    | (refine wpList_store_row rfl 25 (.tmp 5) (.tmp 14) rfl (w.heap.size + 1) (confC d t s bk rm kf bf) rfl rfl 25 (confC 0 0 (fun _ => 0) 0 0 0 0) (heap2_1 w _ _) (conf_info _ _ _ _ _ _ _) rfl (conf_one _ _ _ _ _ _ _) ?_)
    | fail)
  rw [HK.out]
  obtain ⟨w1, hw1⟩ : ∃ w1, w1 = ((w.alloc (.cells (confC d t s bk rm kf bf) 25)).alloc (.cells (confC 0 0 (fun _ => 0) 0 0 0 0) 25)).setRow (w.heap.size + 1) (confC d t s bk rm kf bf) := ⟨_, rfl⟩
  rw [show ((w.alloc (.cells (confC d t s bk rm kf bf) 25)).alloc (.cells #[.int .i64 0, .int .i64 0, .int .i64 0, .int .i64 0, .int .i64 0, .int .i64 0, .int .i64 0, .int .i64 0, .float .f64 0, .float .f64 0] 25)).setRow (w.heap.size + 1) (confC d t s bk rm kf bf) = w1 from hw1.symm]
  have g0 : w1.heap[w.heap.size]? = some (.cells (confC d t s bk rm kf bf) 25 (0, 0)) := by rw [hw1, setRow_other _ _ _ _ (by omega)]; exact heap2_0 _ _ _
  have g1 : w1.heap[w.heap.size + 1]? = some (.cells (confC d t s bk rm kf bf) 25 (0, 0)) := by rw [hw1]; exact setRow_heap _ _ _ _ _ _ (heap2_1 _ _ _)
  have hB : Below w.heap.size w w1 := by rw [hw1]; exact below_setRow below_al2 (by omega) _
  clear hw1
  have c0 : w1.cell? ⟨w.heap.size, 2 + i, none⟩ = some (.int .i64 (s i)) := (cell_at g0 (2 + i)).trans (conf_slab _ _ _ _ _ _ _ i hi)
  have c1 : w1.cell? ⟨w.heap.size + 1, 2 + i, none⟩ = some (.int .i64 (s i)) := (cell_at g1 (2 + i)).trans (conf_slab _ _ _ _ _ _ _ i hi)
  have f1 := free_at g1 (2 + i)
  have G0 := Lib.hid g0
  have G1 := Lib.hid g1
  have HB := Lib.hid hB
  clear g0 g1 hB
  by_cases hm : 512 < s i
  · go_wp2_with fail
    refine (fixed_any _).mono ?_; rintro e w2 ⟨rfl, hb2⟩
    have HB := Lib.hid (HB.out.trans (hb2.mono HB.out.size))
    clear hb2
    go_wp2_with fail
    go_ret
    exact ⟨rfl, HB.out⟩
  · have hm' : s i ≤ 512 := by omega
    clear hm
    go_upto_region 6 with fail
    obtain ⟨w2, hw2⟩ : ∃ w2, w2 = w1.setCell ⟨w.heap.size + 1, 2 + i, none⟩ (.int .i64 (s i + 1)) := ⟨_, rfl⟩
    rw [← hw2]
    have hT : TwoAt w d t s (plus s i) bk rm kf bf w2 := by
      refine ⟨?_, ?_, ?_⟩
      · rw [hw2, Below.heap_setCell _ _ _ _ (by simp)]; exact G0.out
      · rw [hw2, heap_setCell_same _ _ _ _ _ _ G1.out, conf_plus _ _ _ _ _ _ _ i hi]
      · rw [hw2]; exact HB.out.setCell (by simp) _
    clear hw2 c0 c1 f1 G0 G1 HB
    obtain ⟨B, S, C, T, L, E, hE, hlay⟩ := lays d t s bk rm kf bf
    obtain ⟨B', S', C', T', L', E', hE', hlay'⟩ := lays d t (plus s i) bk rm kf bf
    have H1 := Lib.hid hlay
    have H2 := Lib.hid hlay'
    have HE := Lib.hid hE
    have HE' := Lib.hid hE'
    clear hlay hlay' hE hE'
    have T0 := Lib.hid hT
    clear hT
    go_wp2_with (first
      | (refine wpList_load_row rfl 25 (.tmp 2) rfl w.heap.size rfl 25 (confC d t s bk rm kf bf) (0, 0) _ T0.out.1 Try.underlying25 rfl (conf_info _ _ _ _ _ _ _) ?_)
      | fail)
    refine (H1.out _).mono ?_; rintro e w3 ⟨rfl, hb3⟩
    go_upto_region 7 with (first
      | (refine wpList_store_row rfl 28 (.tmp 7) (.tmp 35) rfl w3.heap.size (planC B S C T L) rfl rfl 28 (planC (fun _ => 0) (fun _ => 0) 0 0 0) (heap_alloc_new w3 _) (planC_info _ _ _ _ _) rfl (planC_one _ _ _ _ _) ?_)
      | fail)
    obtain ⟨w4, hw4⟩ : ∃ w4, w4 = (w3.alloc (.cells (planC (fun _ => 0) (fun _ => 0) 0 0 0) 28)).setRow w3.heap.size (planC B S C T L) := ⟨_, rfl⟩
    rw [show (w3.alloc (.cells #[.int .i64 0, .int .i64 0, .int .i64 0, .int .i64 0, .int .i64 0, .int .i64 0, .int .i64 0, .int .i64 0, .int .i64 0, .int .i64 0, .int .i64 0, .int .i64 0, .int .i64 0, .int .i64 0, .int .i64 0] 28)).setRow w3.heap.size (planC B S C T L) = w4 from hw4.symm]
    obtain ⟨g3, hb4⟩ : w4.heap[w3.heap.size]? = some (.cells (planC B S C T L) 28 (0, 0)) ∧ Below w3.heap.size w3 w4 := by rw [hw4]; exact new_row
    obtain ⟨p, hp⟩ : ∃ p, p = w3.heap.size := ⟨_, rfl⟩
    have T4 := Lib.hid ((T0.out.below hb3).below hb4)
    rw [← hp] at g3 ⊢
    have G3 := Lib.hid g3
    clear T0 hw4 hb3 hb4 hp g3
    go_wp2_with (first
      | (refine wpList_load_row rfl 25 (.tmp 5) rfl (w.heap.size + 1) rfl 25 (confC d t (plus s i) bk rm kf bf) (0, 0) _ T4.out.2.1 Try.underlying25 rfl (conf_info _ _ _ _ _ _ _) ?_)
      | fail)
    refine (H2.out _).mono ?_; rintro e w5 ⟨rfl, hb5⟩
    go_upto_region 8 with (first
      | (refine wpList_store_row rfl 28 (.tmp 9) (.tmp 40) rfl w5.heap.size (planC B' S' C' T' L') rfl rfl 28 (planC (fun _ => 0) (fun _ => 0) 0 0 0) (heap_alloc_new w5 _) (planC_info _ _ _ _ _) rfl (planC_one _ _ _ _ _) ?_)
      | fail)
    obtain ⟨w6, hw6⟩ : ∃ w6, w6 = (w5.alloc (.cells (planC (fun _ => 0) (fun _ => 0) 0 0 0) 28)).setRow w5.heap.size (planC B' S' C' T' L') := ⟨_, rfl⟩
    rw [show (w5.alloc (.cells #[.int .i64 0, .int .i64 0, .int .i64 0, .int .i64 0, .int .i64 0, .int .i64 0, .int .i64 0, .int .i64 0, .int .i64 0, .int .i64 0, .int .i64 0, .int .i64 0, .int .i64 0, .int .i64 0, .int .i64 0] 28)).setRow w5.heap.size (planC B' S' C' T' L') = w6 from hw6.symm]
    obtain ⟨g6, hb6⟩ : w6.heap[w5.heap.size]? = some (.cells (planC B' S' C' T' L') 28 (0, 0)) ∧ Below w5.heap.size w5 w6 := by rw [hw6]; exact new_row
    obtain ⟨q, hq⟩ : ∃ q, q = w5.heap.size := ⟨_, rfl⟩
    rw [← hq] at g6 ⊢
    have g3 := (hb6.block _ (lt_of_heap ((hb5.block _ (lt_of_heap G3.out)).trans G3.out))).trans ((hb5.block _ (lt_of_heap G3.out)).trans G3.out)
    have hB := (T4.out.below hb5).below hb6 |>.2.2
    clear hw6 hb5 hb6 hq T4 G3
    by_cases hok : E = 0 ∧ E' = 0
    · obtain ⟨rfl, rfl⟩ := hok
      obtain ⟨hl, rfl, rfl, rfl, rfl, rfl⟩ := HE.out.1 rfl
      obtain ⟨hl', rfl, rfl, rfl, rfl, rfl⟩ := HE'.out.1 rfl
      clear HE HE' H1 H2
      have key : ∃ (B S : Nat → Int) (C T L : Int) (B' S' : Nat → Int), (PlansAt w p q B S C T L B' S' (C + slab i) w6 ∧ (∀ j, j < 6 → 0 ≤ S j ∧ S j ≤ 131072) ∧ (∀ j, j < 6 → 3 ≤ B j ∧ B j ≤ 1000000) ∧ (3 ≤ C ∧ C ≤ 1000000)) ∧
          (∀ j, S' j = S j + if j = i then slab i else 0) ∧ (∀ j, B' j = B j + if i < j then slab i else 0) := by
        refine ⟨_, _, _, _, _, _, _, ⟨⟨g3, ?_, hB⟩, fun j _ => ⟨szOf_lo hl.1 j, szOf_hi hl.1 j⟩, fun j hj => ⟨baseOf_lo hl.1 j, by have := baseOf_hi hl.1 j; omega⟩, baseOf_lo hl.1 6, by have := baseOf_hi hl.1 6; omega⟩, sz_plus s bk rm i hi, base_plus s bk rm i hi⟩
        have := base_plus s bk rm i hi 6
        rw [if_pos (by omega)] at this
        rw [← this]
        exact g6
      have KEY := Lib.hid key
      clear key g3 g6 hB hl hl'
      obtain ⟨B, S, C, T, L, B', S', ⟨hP, hS, hBB, hC0, hC1⟩, hS', hB'⟩ := KEY.out
      have HS := Lib.hid hS
      have HBB := Lib.hid hBB
      have HS' := Lib.hid hS'
      have HB' := Lib.hid hB'
      have sl0 := slab_lo i
      have sl1 := slab_hi i
      clear hS hBB hS' hB' KEY
      go_wp2_with fail
      go_loopw [49] (fun j wr => ∃ k : Nat, k ≤ 6 ∧ j = .int .i64 k ∧ PlansAt w p q B S C T L B' S' (C + slab i) wr) (fun j _ => 6 - (intOf j).toNat)
      case atStart => exact ⟨0, by omega, rfl, hP⟩
      case round =>
        clear hP
        obtain ⟨k, hk, rfl, hP⟩ := hrel
        by_cases hlt : k < 6
        · have hlt6 : (k : Int) < 6 := by omega
          have a1 : wr.cell? ⟨p, k, none⟩ = some (.int .i64 (B k)) := (cell_at hP.1 k).trans (planC_base _ _ _ _ _ k hlt)
          have a2 : wr.cell? ⟨p, 6 + k, none⟩ = some (.int .i64 (S k)) := (cell_at hP.1 (6 + k)).trans (planC_size _ _ _ _ _ k hlt)
          have a3 : wr.cell? ⟨q, k, none⟩ = some (.int .i64 (B' k)) := (cell_at hP.2.1 k).trans (planC_base _ _ _ _ _ k hlt)
          have a4 : wr.cell? ⟨q, 6 + k, none⟩ = some (.int .i64 (S' k)) := (cell_at hP.2.1 (6 + k)).trans (planC_size _ _ _ _ _ k hlt)
          have b0 := (HBB.out k hlt).1
          have b1 := (HBB.out k hlt).2
          have s0 := (HS.out k hlt).1
          have s1 := (HS.out k hlt).2
          rw [HB'.out k] at a3
          rw [HS'.out k] at a4
          have HP := Lib.hid hP
          clear hP
          have wr1 : IntKind.i64.wrap (B k + slab i) = B k + slab i := IntWalk.i64_in _ (by omega)
          have wr2 : IntKind.i64.wrap (S k + slab i) = S k + slab i := IntWalk.i64_in _ (by omega)
          by_cases hgt : i < k
          · rw [if_pos hgt] at a3
            rw [if_neg (by omega), Int.add_zero] at a4
            have t1 : (i : Int) < (k : Int) := by omega
            have t2 : ((k : Int) == (i : Int)) = false := by simp; omega
            go_wp2_with (first | (go_at_call 18; refine (slab_in _ i hi).mono ?_; rintro e w' ⟨rfl, rfl⟩) | fail)
            go_quiet (fail)
            go_wp2_with fail
            go_roundw
            case rel => exact ⟨k + 1, by omega, by go_num, HP.out.drawn _⟩
            case measure => simp [intOf]; omega
          · by_cases heq : k = i
            · rw [if_neg hgt, Int.add_zero] at a3
              rw [if_pos heq] at a4
              have t1 : ¬ (i : Int) < (k : Int) := by omega
              have t2 : ((k : Int) == (i : Int)) = true := by simp; omega
              clear heq
              go_wp2_with (first | (go_at_call 18; refine (slab_in _ i hi).mono ?_; rintro e w' ⟨rfl, rfl⟩) | fail)
              go_quiet (fail)
              go_wp2_with fail
              go_roundw
              case rel => exact ⟨k + 1, by omega, by go_num, HP.out.drawn _⟩
              case measure => simp [intOf]; omega
            · rw [if_neg hgt, Int.add_zero] at a3
              rw [if_neg heq, Int.add_zero] at a4
              have t1 : ¬ (i : Int) < (k : Int) := by omega
              have t2 : ((k : Int) == (i : Int)) = false := by simp; omega
              go_wp2_with fail
              go_quiet (fail)
              go_wp2_with fail
              go_roundw
              case rel => exact ⟨k + 1, by omega, by go_num, HP.out.drawn _⟩
              case measure => simp [intOf]; omega
        · obtain rfl : k = 6 := by omega
          go_upto_region 21 with fail
          have wr1 : IntKind.i64.wrap (C + slab i) = C + slab i := IntWalk.i64_in _ (by omega)
          refine wp_region_by (fun (_ : Unit) j => [.bool true, .bool true, .pointer (some ⟨q, 12, none⟩), .int .i64 (C + slab i), .pointer (some ⟨p, 12, none⟩), .int .i64 C, .int .i64 i, .int .i64 (slab i), .int .i64 (C + slab i), .bool true, .bool true, .bool true, .pointer (some ⟨q, 13, none⟩), .int .i64 T, .pointer (some ⟨p, 13, none⟩), .int .i64 T, .bool true, .bool true, .bool true, .pointer (some ⟨q, 14, none⟩), .int .i64 L, .pointer (some ⟨p, 14, none⟩), .int .i64 L, .bool true, .bool true, .bool true].getD j undef) (fun _ _ wx => PlansAt w p q B S C T L B' S' (C + slab i) wx) (by kernel_rfl) (by kernel_rfl)
            (fun _ => by simp only [putTo, dstOf, Act.put, List.size_toArray, List.length_cons, List.length_nil, List.getElem?_toArray, Nat.reduceAdd, Option.bind_some, List.getElem?_cons_zero, List.getElem?_cons_succ, List.setIfInBounds_toArray, List.set_cons_zero, List.set_cons_succ, List.getD_cons_zero, List.getD_cons_succ]; exact rfl) () (hP.drawn 1) ?_ ?_
          · intro m o ho _ l wx hR hl he K hK
            have a1 : wx.cell? ⟨p, 12, none⟩ = some (.int .i64 C) := cell_at hR.1 12
            have a2 : wx.cell? ⟨p, 13, none⟩ = some (.int .i64 T) := cell_at hR.1 13
            have a3 : wx.cell? ⟨p, 14, none⟩ = some (.int .i64 L) := cell_at hR.1 14
            have a4 : wx.cell? ⟨q, 12, none⟩ = some (.int .i64 (C + slab i)) := cell_at hR.2.1 12
            have a5 : wx.cell? ⟨q, 13, none⟩ = some (.int .i64 T) := cell_at hR.2.1 13
            have a6 : wx.cell? ⟨q, 14, none⟩ = some (.int .i64 L) := cell_at hR.2.1 14
            rcases m with _ | _ | _ | _ | _ | _ | _ | _ | _ | _ | _ | _ | _ | _ | _ | _ | _ | _ | _ | _ | _ | _ | _ | _ | _ | _ | m
            · obtain rfl : _ = o := Option.some.inj ho
              go_simp; refine (fixed_any _).mono ?_; rintro e w2 ⟨rfl, hb2⟩; exact hK () w2 (fun _ _ => rfl) (hR.below hb2)
            · obtain rfl : _ = o := Option.some.inj ho
              go_simp; exact hK () wx (fun _ _ => rfl) hR
            · obtain rfl : _ = o := Option.some.inj ho
              go_simp; exact hK () wx (fun _ _ => rfl) hR
            · obtain rfl : _ = o := Option.some.inj ho
              go_simp; exact hK () wx (fun _ _ => rfl) hR
            · obtain rfl : _ = o := Option.some.inj ho
              go_simp; exact hK () wx (fun _ _ => rfl) hR
            · obtain rfl : _ = o := Option.some.inj ho
              go_simp; exact hK () wx (fun _ _ => rfl) hR
            · obtain rfl : _ = o := Option.some.inj ho
              go_simp; exact hK () wx (fun _ _ => rfl) hR
            · obtain rfl : _ = o := Option.some.inj ho
              go_simp; refine (slab_in _ i hi).mono ?_; rintro e w2 ⟨rfl, rfl⟩; exact hK () wx (fun _ _ => rfl) hR
            · obtain rfl : _ = o := Option.some.inj ho
              go_simp; exact hK () wx (fun _ _ => rfl) hR
            · obtain rfl : _ = o := Option.some.inj ho
              go_simp; exact hK () wx (fun _ _ => rfl) hR
            · obtain rfl : _ = o := Option.some.inj ho
              go_simp; exact hK () wx (fun _ _ => rfl) hR
            · obtain rfl : _ = o := Option.some.inj ho
              go_simp; exact hK () wx (fun _ _ => rfl) hR
            · obtain rfl : _ = o := Option.some.inj ho
              go_simp; exact hK () wx (fun _ _ => rfl) hR
            · obtain rfl : _ = o := Option.some.inj ho
              go_simp; exact hK () wx (fun _ _ => rfl) hR
            · obtain rfl : _ = o := Option.some.inj ho
              go_simp; exact hK () wx (fun _ _ => rfl) hR
            · obtain rfl : _ = o := Option.some.inj ho
              go_simp; exact hK () wx (fun _ _ => rfl) hR
            · obtain rfl : _ = o := Option.some.inj ho
              go_simp; exact hK () wx (fun _ _ => rfl) hR
            · obtain rfl : _ = o := Option.some.inj ho
              go_simp; exact hK () wx (fun _ _ => rfl) hR
            · obtain rfl : _ = o := Option.some.inj ho
              go_simp; exact hK () wx (fun _ _ => rfl) hR
            · obtain rfl : _ = o := Option.some.inj ho
              go_simp; exact hK () wx (fun _ _ => rfl) hR
            · obtain rfl : _ = o := Option.some.inj ho
              go_simp; exact hK () wx (fun _ _ => rfl) hR
            · obtain rfl : _ = o := Option.some.inj ho
              go_simp; exact hK () wx (fun _ _ => rfl) hR
            · obtain rfl : _ = o := Option.some.inj ho
              go_simp; exact hK () wx (fun _ _ => rfl) hR
            · obtain rfl : _ = o := Option.some.inj ho
              go_simp; exact hK () wx (fun _ _ => rfl) hR
            · obtain rfl : _ = o := Option.some.inj ho
              go_simp; exact hK () wx (fun _ _ => rfl) hR
            · obtain rfl : _ = o := Option.some.inj ho
              go_simp; exact hK () wx (fun _ _ => rfl) hR
            · simp at ho
          · intro _ l wx hl hR
            have HX := Lib.hid hR.2.2
            clear hP hR wr1
            go_wp2_with fail
            go_ret
            exact ⟨rfl, HX.out⟩
    · have HB := Lib.hid hB
      clear g3 g6 hB
      have hd : E ≠ 0 ∨ (E = 0 ∧ E' ≠ 0) := by omega
      clear hok
      rcases hd with hd | ⟨rfl, hd⟩
      · have he : (E == 0) = false := by simpa using hd
        go_wp2_with fail
        refine (fixed_any _).mono ?_; rintro e w7 ⟨rfl, hb7⟩
        have HB := Lib.hid (HB.out.trans (hb7.mono HB.out.size))
        clear hb7
        go_wp2_with fail
        go_ret
        exact ⟨rfl, HB.out⟩
      · have he : (E' == 0) = false := by simpa using hd
        go_wp2_with fail
        refine (fixed_any _).mono ?_; rintro e w7 ⟨rfl, hb7⟩
        have HB := Lib.hid (HB.out.trans (hb7.mono HB.out.size))
        clear hb7
        go_wp2_with fail
        go_ret
        exact ⟨rfl, HB.out⟩

theorem walk_all (d t : Int) (s : Nat → Int) (bk rm : Int) (kf bf : Nat) (a : Int) (w : World) (h0 : 0 ≤ a) (h1 : a ≤ 255) (hs : ∀ k, k < 4 → -9223372036854775808 ≤ s k) :
    Calls Try.prog 8 #[.agg (confC d t s bk rm kf bf), .int .u8 a] w fun e w' => e = .returned (.bool true) ∧ Below w.heap.size w w' := by
  obtain ⟨K, rfl⟩ := Int.eq_ofNat_of_zero_le h0
  exact walk_in d t s bk rm kf bf K (K % 4) w (by omega) (by omega) (by omega) (hs _ (by omega))

set_option linter.unusedVariables false in
theorem walk {H : Type} {enc : TypeId × Value → H} (W : World) (args : Array Value) (ds : List (DataW H)) (hin : ArgsIn enc Try.prog Try.f8.params.toList W args ds) :
    Calls Try.prog 8 args W fun e W' => e = .returned (.bool true) ∧ Below W.heap.size W W' := by
  obtain ⟨⟨p, hA, hlt⟩, ⟨base, hval⟩, hsz⟩ := hin
  rw [Try.params8] at hA hval hsz
  obtain ⟨v0, vs0, d0, ds0, p0, q0, hargs, rfl, rfl, h0, r0⟩ := trodAll_cons hA
  obtain ⟨v1, vs1, d1, ds1, p1, q1, rfl, rfl, rfl, h1, r1⟩ := trodAll_cons r0
  obtain ⟨rfl, rfl, rfl⟩ := trodAll_nil r1
  obtain rfl : args = #[v0, v1] := by cases args; simp_all
  obtain ⟨d,t,s,bk,rm,kf,bf,rfl,hs⟩ := open_conf (hval 0 25 v0 rfl rfl) h0
  obtain ⟨a1, rfl, rfl, rfl, w1⟩ := open_int Try.underlying5 (hval 1 5 v1 rfl rfl) h1
  exact walk_all d t s bk rm kf bf a1 W (u8_lo w1) (u8_hi w1) hs

set_option maxRecDepth 100000 in
theorem proved : Rows.PoolShiftsSaid :=
  OpenClaim.holds_of_wide 8 Try.f8 rfl rfl rfl rfl rfl rfl rfl ⟨rfl, rfl, rfl, rfl, rfl⟩ rfl rfl rfl rfl rfl (by kernel_rfl) Try.func8 (by kernel_rfl)
    (of_decide_eq_true (by kernel_rfl)) (by unfold Func.isWrapper; first | (rw [if_pos (by decide +kernel)]; kernel_rfl) | (rw [if_neg (by decide +kernel)]; exact ⟨rfl, rfl⟩))
    (fun os started H enc _ => law_lifted (s := Rows.poolShiftsSpec) own started (by kernel_rfl) Try.func8 laidOut (by kernel_rfl) (by kernel_rfl) Try.underlying4 rfl
      (ChangeSpec.witness6 (enc := enc) (C := Try.checked) false ⟨#[], #[.agg #[.int .i64 0, .int .i64 0, .int .i64 0, .int .i64 0, .int .i64 0, .int .i64 0, .int .i64 0, .int .i64 0, .float .f64 0, .float .f64 0], .int .u8 0], []⟩ 8 (by kernel_rfl) (by kernel_rfl) (by kernel_rfl) (by kernel_rfl))
      (fun ds h => match ds, h with | [_, _], _ => rfl) walk)
#print axioms proved
end Go.Proofs.Ytniejikbbmileaa.poolShifts
